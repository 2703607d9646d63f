/-
  rtp.Same and the reference's; Clone.
-/
import Derived.Test.YtedhmoihlfjbdaaIbVals
import Derived.Test.YtedhmoihlfjbdaaPaSome
namespace Go.Proofs.Ytedhmoihlfjbdaa
open Go.RowKit Go.Shelf
set_option linter.unusedVariables false
theorem bytesOf_data (l : List Int) : ∀ r : ByteArray, (l.foldl (fun r n => r.push (UInt8.ofNat n.toNat)) r).data.toList = r.data.toList ++ l.map (fun n => UInt8.ofNat n.toNat) := by
  induction l with
  | nil => intro r; simp
  | cons a l ih => intro r; rw [List.foldl_cons, ih]; simp [ByteArray.push]
theorem bytesOf_inj {l1 l2 : List Int} (h1 : Str.Ok l1) (h2 : Str.Ok l2) (h : bytesOf l1 = bytesOf l2) : l1 = l2 := by
  have e : l1.map (fun n => UInt8.ofNat n.toNat) = l2.map (fun n => UInt8.ofNat n.toNat) := by
    have d1 := bytesOf_data l1 ByteArray.empty
    have d2 := bytesOf_data l2 ByteArray.empty
    unfold bytesOf at h
    rw [h] at d1
    rw [d1] at d2
    simpa using d2
  have hl : l1.length = l2.length := by simpa using congrArg List.length e
  refine getD_ext hl fun i hi => ?_
  have hi2 : i < l2.length := by omega
  have := congrArg (fun x => x[i]?) e
  simp [List.getElem?_map, List.getElem?_eq_getElem hi, List.getElem?_eq_getElem hi2] at this
  have b1 := h1 i; have b2 := h2 i
  rw [List.getD_eq_getElem?_getD, List.getElem?_eq_getElem hi] at b1 ⊢
  rw [List.getD_eq_getElem?_getD, List.getElem?_eq_getElem hi2] at b2 ⊢
  simp at b1 b2 ⊢
  have h3 := congrArg UInt8.toNat this
  simp at h3
  omega
set_option maxRecDepth 100000 in
theorem bequal_any (a1 a2 : Option Addr) (n m c1 c2 : Nat) (l1 l2 : List Int) (w : World) (h1 : BAt w a1 n l1) (h2 : BAt w a2 m l2) :
    Calls Try.prog 64 #[.slice a1 n c1, .slice a2 m c2] w (SameV (.bool (decide (l1 = l2))) w) := by
  have s1 := str_of w a1 n c1 l1 h1
  have s2 := str_of w a2 m c2 l2 h2
  have hd : decide (l1 = l2) = ((bytesOf l1).toList == (bytesOf l2).toList) := by
    rw [ByteArray.toList_eq, ByteArray.toList_eq]
    by_cases e : l1 = l2
    · subst e; simp
    · rw [decide_eq_false e]
      have : ¬ (bytesOf l1).data.toList = (bytesOf l2).data.toList := fun h => e (bytesOf_inj h1.ok h2.ok (by
        cases hb1 : bytesOf l1; cases hb2 : bytesOf l2
        rw [hb1, hb2] at h
        congr 1
        exact Array.toList_inj.1 h))
      symm
      rw [beq_eq_false_iff_ne]
      exact this
  rw [hd]
  clear hd h1 h2
  go_enter Try.func64, Try.ntmps64
  go_wp2
  go_ret
  exact ⟨rfl, rfl⟩
end Go.Proofs.Ytedhmoihlfjbdaa
namespace Go.Proofs.Ytedhmoihlfjbdaa
open Go.RowKit Go.Shelf
set_option linter.unusedVariables false
/-- What Bytes gives: an imprint, its bytes copied. -/
def BytesOut (q : Nat → Int) (l : List Int) (w : World) (e : Ending) (w' : World) : Prop :=
  ∃ a c, e = .returned (.agg #[.int .u8 (q 0 % 64), .int .u8 (q 1), .int .u8 (q 2), .int .u8 (q 3), .int .u8 (q 4), .int .u8 (q 5), .int .u8 (q 6), .int .u8 (q 7), .slice a l.length c]) ∧ Own w' w.heap.size a l.length c l ∧ Below w.heap.size w w'
/-- Cells and freedom of a row of nine. -/
def Cells9 (W : World) (p : Nat) (v0 v1 v2 v3 v4 v5 v6 v7 v8 : Value) : Prop :=
  W.cell? ⟨p, 0, none⟩ = some v0 ∧ W.cell? ⟨p, 1, none⟩ = some v1 ∧ W.cell? ⟨p, 2, none⟩ = some v2 ∧ W.cell? ⟨p, 3, none⟩ = some v3 ∧ W.cell? ⟨p, 4, none⟩ = some v4 ∧ W.cell? ⟨p, 5, none⟩ = some v5 ∧ W.cell? ⟨p, 6, none⟩ = some v6 ∧ W.cell? ⟨p, 7, none⟩ = some v7 ∧ W.cell? ⟨p, 8, none⟩ = some v8 ∧ W.frozen? ⟨p, 0, none⟩ = false ∧ W.frozen? ⟨p, 1, none⟩ = false ∧ W.frozen? ⟨p, 2, none⟩ = false ∧ W.frozen? ⟨p, 3, none⟩ = false ∧ W.frozen? ⟨p, 4, none⟩ = false ∧ W.frozen? ⟨p, 5, none⟩ = false ∧ W.frozen? ⟨p, 6, none⟩ = false ∧ W.frozen? ⟨p, 7, none⟩ = false ∧ W.frozen? ⟨p, 8, none⟩ = false
theorem cells9 {W : World} {p : Nat} {v0 v1 v2 v3 v4 v5 v6 v7 v8 : Value} {t : TypeId} (h : W.heap[p]? = some (.cells #[v0, v1, v2, v3, v4, v5, v6, v7, v8] t (0, 0))) : Cells9 W p v0 v1 v2 v3 v4 v5 v6 v7 v8 := by
  refine ⟨?_, ?_, ?_, ?_, ?_, ?_, ?_, ?_, ?_, ?_, ?_, ?_, ?_, ?_, ?_, ?_, ?_, ?_⟩
  all_goals first | (rw [cell_of_row W _ _ _ _ _ h]; rfl) | exact frozen_of_row W _ _ _ _ h
theorem row_first {W w2 : World} {o : Obj} (hb : Below (W.alloc o).heap.size (W.alloc o) w2) : w2.heap[W.heap.size]? = some o :=
  (hb.block _ (by simp)).trans (heap_alloc_new W o)
theorem row_firstd {W w2 : World} {o : Obj} (hb : Below (W.alloc o).drew.heap.size (W.alloc o).drew w2) : w2.heap[W.heap.size]? = some o :=
  (hb.block W.heap.size (by show W.heap.size < (W.alloc o).heap.size; simp)).trans (heap_alloc_new W o)
theorem row_dfirst {W w2 : World} {o : Obj} (hb : Below (W.drew.alloc o).heap.size (W.drew.alloc o) w2) : w2.heap[W.heap.size]? = some o :=
  (hb.block W.heap.size (by show W.heap.size < (W.drew.alloc o).heap.size; simp)).trans (heap_alloc_new W.drew o)
theorem row_next {W w2 : World} {p : Nat} {o : Obj} (h : W.heap[p]? = some o) (hb : Below W.heap.size W w2) : w2.heap[p]? = some o :=
  (hb.block _ (Array.getElem?_eq_some_iff.1 h).1).trans h
section
variable {N : Nat} {q : Nat → Int} {ab : Option Addr} {nb cb : Nat} {wA W W' : World}
theorem bs_b (h : W.cell? ⟨N, 0, none⟩ = some (.int .u8 (q 0)) ∧ W.cell? ⟨N, 1, none⟩ = some (.int .u8 (q 1)) ∧ W.cell? ⟨N, 2, none⟩ = some (.int .u8 (q 2)) ∧ W.cell? ⟨N, 3, none⟩ = some (.int .u8 (q 3)) ∧ W.cell? ⟨N, 4, none⟩ = some (.int .u8 (q 4)) ∧ W.cell? ⟨N, 5, none⟩ = some (.int .u8 (q 5)) ∧ W.cell? ⟨N, 6, none⟩ = some (.int .u8 (q 6)) ∧ W.cell? ⟨N, 7, none⟩ = some (.int .u8 (q 7)) ∧ W.cell? ⟨N, 11, none⟩ = some (.slice ab nb cb) ∧ Below wA.heap.size wA W ∧ N < wA.heap.size) : Below wA.heap.size wA W := h.2.2.2.2.2.2.2.2.2.1
theorem bs_kept (h : W.cell? ⟨N, 0, none⟩ = some (.int .u8 (q 0)) ∧ W.cell? ⟨N, 1, none⟩ = some (.int .u8 (q 1)) ∧ W.cell? ⟨N, 2, none⟩ = some (.int .u8 (q 2)) ∧ W.cell? ⟨N, 3, none⟩ = some (.int .u8 (q 3)) ∧ W.cell? ⟨N, 4, none⟩ = some (.int .u8 (q 4)) ∧ W.cell? ⟨N, 5, none⟩ = some (.int .u8 (q 5)) ∧ W.cell? ⟨N, 6, none⟩ = some (.int .u8 (q 6)) ∧ W.cell? ⟨N, 7, none⟩ = some (.int .u8 (q 7)) ∧ W.cell? ⟨N, 11, none⟩ = some (.slice ab nb cb) ∧ Below wA.heap.size wA W ∧ N < wA.heap.size) (hb : Below wA.heap.size W W') : W'.cell? ⟨N, 0, none⟩ = some (.int .u8 (q 0)) ∧ W'.cell? ⟨N, 1, none⟩ = some (.int .u8 (q 1)) ∧ W'.cell? ⟨N, 2, none⟩ = some (.int .u8 (q 2)) ∧ W'.cell? ⟨N, 3, none⟩ = some (.int .u8 (q 3)) ∧ W'.cell? ⟨N, 4, none⟩ = some (.int .u8 (q 4)) ∧ W'.cell? ⟨N, 5, none⟩ = some (.int .u8 (q 5)) ∧ W'.cell? ⟨N, 6, none⟩ = some (.int .u8 (q 6)) ∧ W'.cell? ⟨N, 7, none⟩ = some (.int .u8 (q 7)) ∧ W'.cell? ⟨N, 11, none⟩ = some (.slice ab nb cb) ∧ Below wA.heap.size wA W' ∧ N < wA.heap.size := by
  obtain ⟨h0, h1, h2, h3, h4, h5, h6, h7, h11, hB, hN⟩ := h
  exact ⟨(hb.cell (p := ⟨N, 0, none⟩) hN).trans h0, (hb.cell (p := ⟨N, 1, none⟩) hN).trans h1, (hb.cell (p := ⟨N, 2, none⟩) hN).trans h2, (hb.cell (p := ⟨N, 3, none⟩) hN).trans h3, (hb.cell (p := ⟨N, 4, none⟩) hN).trans h4, (hb.cell (p := ⟨N, 5, none⟩) hN).trans h5, (hb.cell (p := ⟨N, 6, none⟩) hN).trans h6, (hb.cell (p := ⟨N, 7, none⟩) hN).trans h7, (hb.cell (p := ⟨N, 11, none⟩) hN).trans h11, hB.trans hb, hN⟩
theorem bs_below (h : W.cell? ⟨N, 0, none⟩ = some (.int .u8 (q 0)) ∧ W.cell? ⟨N, 1, none⟩ = some (.int .u8 (q 1)) ∧ W.cell? ⟨N, 2, none⟩ = some (.int .u8 (q 2)) ∧ W.cell? ⟨N, 3, none⟩ = some (.int .u8 (q 3)) ∧ W.cell? ⟨N, 4, none⟩ = some (.int .u8 (q 4)) ∧ W.cell? ⟨N, 5, none⟩ = some (.int .u8 (q 5)) ∧ W.cell? ⟨N, 6, none⟩ = some (.int .u8 (q 6)) ∧ W.cell? ⟨N, 7, none⟩ = some (.int .u8 (q 7)) ∧ W.cell? ⟨N, 11, none⟩ = some (.slice ab nb cb) ∧ Below wA.heap.size wA W ∧ N < wA.heap.size) (hb : Below W.heap.size W W') : W'.cell? ⟨N, 0, none⟩ = some (.int .u8 (q 0)) ∧ W'.cell? ⟨N, 1, none⟩ = some (.int .u8 (q 1)) ∧ W'.cell? ⟨N, 2, none⟩ = some (.int .u8 (q 2)) ∧ W'.cell? ⟨N, 3, none⟩ = some (.int .u8 (q 3)) ∧ W'.cell? ⟨N, 4, none⟩ = some (.int .u8 (q 4)) ∧ W'.cell? ⟨N, 5, none⟩ = some (.int .u8 (q 5)) ∧ W'.cell? ⟨N, 6, none⟩ = some (.int .u8 (q 6)) ∧ W'.cell? ⟨N, 7, none⟩ = some (.int .u8 (q 7)) ∧ W'.cell? ⟨N, 11, none⟩ = some (.slice ab nb cb) ∧ Below wA.heap.size wA W' ∧ N < wA.heap.size := bs_kept h (hb.mono (bs_b h).size)
theorem bs_drew (h : W.cell? ⟨N, 0, none⟩ = some (.int .u8 (q 0)) ∧ W.cell? ⟨N, 1, none⟩ = some (.int .u8 (q 1)) ∧ W.cell? ⟨N, 2, none⟩ = some (.int .u8 (q 2)) ∧ W.cell? ⟨N, 3, none⟩ = some (.int .u8 (q 3)) ∧ W.cell? ⟨N, 4, none⟩ = some (.int .u8 (q 4)) ∧ W.cell? ⟨N, 5, none⟩ = some (.int .u8 (q 5)) ∧ W.cell? ⟨N, 6, none⟩ = some (.int .u8 (q 6)) ∧ W.cell? ⟨N, 7, none⟩ = some (.int .u8 (q 7)) ∧ W.cell? ⟨N, 11, none⟩ = some (.slice ab nb cb) ∧ Below wA.heap.size wA W ∧ N < wA.heap.size) : W.drew.cell? ⟨N, 0, none⟩ = some (.int .u8 (q 0)) ∧ W.drew.cell? ⟨N, 1, none⟩ = some (.int .u8 (q 1)) ∧ W.drew.cell? ⟨N, 2, none⟩ = some (.int .u8 (q 2)) ∧ W.drew.cell? ⟨N, 3, none⟩ = some (.int .u8 (q 3)) ∧ W.drew.cell? ⟨N, 4, none⟩ = some (.int .u8 (q 4)) ∧ W.drew.cell? ⟨N, 5, none⟩ = some (.int .u8 (q 5)) ∧ W.drew.cell? ⟨N, 6, none⟩ = some (.int .u8 (q 6)) ∧ W.drew.cell? ⟨N, 7, none⟩ = some (.int .u8 (q 7)) ∧ W.drew.cell? ⟨N, 11, none⟩ = some (.slice ab nb cb) ∧ Below wA.heap.size wA W.drew ∧ N < wA.heap.size := bs_below h ((Below.refl _ W).drew)
theorem bs_alloc {o : Obj} (h : W.cell? ⟨N, 0, none⟩ = some (.int .u8 (q 0)) ∧ W.cell? ⟨N, 1, none⟩ = some (.int .u8 (q 1)) ∧ W.cell? ⟨N, 2, none⟩ = some (.int .u8 (q 2)) ∧ W.cell? ⟨N, 3, none⟩ = some (.int .u8 (q 3)) ∧ W.cell? ⟨N, 4, none⟩ = some (.int .u8 (q 4)) ∧ W.cell? ⟨N, 5, none⟩ = some (.int .u8 (q 5)) ∧ W.cell? ⟨N, 6, none⟩ = some (.int .u8 (q 6)) ∧ W.cell? ⟨N, 7, none⟩ = some (.int .u8 (q 7)) ∧ W.cell? ⟨N, 11, none⟩ = some (.slice ab nb cb) ∧ Below wA.heap.size wA W ∧ N < wA.heap.size) : (W.alloc o).cell? ⟨N, 0, none⟩ = some (.int .u8 (q 0)) ∧ (W.alloc o).cell? ⟨N, 1, none⟩ = some (.int .u8 (q 1)) ∧ (W.alloc o).cell? ⟨N, 2, none⟩ = some (.int .u8 (q 2)) ∧ (W.alloc o).cell? ⟨N, 3, none⟩ = some (.int .u8 (q 3)) ∧ (W.alloc o).cell? ⟨N, 4, none⟩ = some (.int .u8 (q 4)) ∧ (W.alloc o).cell? ⟨N, 5, none⟩ = some (.int .u8 (q 5)) ∧ (W.alloc o).cell? ⟨N, 6, none⟩ = some (.int .u8 (q 6)) ∧ (W.alloc o).cell? ⟨N, 7, none⟩ = some (.int .u8 (q 7)) ∧ (W.alloc o).cell? ⟨N, 11, none⟩ = some (.slice ab nb cb) ∧ Below wA.heap.size wA (W.alloc o) ∧ N < wA.heap.size := bs_below h ((Below.refl _ W).alloc (Nat.le_refl _) _)
theorem bs_put {p : Nat} {v0 v1 v2 v3 v4 v5 v6 v7 v8 : Value} (h : W.cell? ⟨N, 0, none⟩ = some (.int .u8 (q 0)) ∧ W.cell? ⟨N, 1, none⟩ = some (.int .u8 (q 1)) ∧ W.cell? ⟨N, 2, none⟩ = some (.int .u8 (q 2)) ∧ W.cell? ⟨N, 3, none⟩ = some (.int .u8 (q 3)) ∧ W.cell? ⟨N, 4, none⟩ = some (.int .u8 (q 4)) ∧ W.cell? ⟨N, 5, none⟩ = some (.int .u8 (q 5)) ∧ W.cell? ⟨N, 6, none⟩ = some (.int .u8 (q 6)) ∧ W.cell? ⟨N, 7, none⟩ = some (.int .u8 (q 7)) ∧ W.cell? ⟨N, 11, none⟩ = some (.slice ab nb cb) ∧ Below wA.heap.size wA W ∧ N < wA.heap.size) (hp : wA.heap.size ≤ p) : (((((((((W.setCell ⟨p, 0, none⟩ v0).setCell ⟨p, 1, none⟩ v1).setCell ⟨p, 2, none⟩ v2).setCell ⟨p, 3, none⟩ v3).setCell ⟨p, 4, none⟩ v4).setCell ⟨p, 5, none⟩ v5).setCell ⟨p, 6, none⟩ v6).setCell ⟨p, 7, none⟩ v7).setCell ⟨p, 8, none⟩ v8).cell? ⟨N, 0, none⟩ = some (.int .u8 (q 0)) ∧ (((((((((W.setCell ⟨p, 0, none⟩ v0).setCell ⟨p, 1, none⟩ v1).setCell ⟨p, 2, none⟩ v2).setCell ⟨p, 3, none⟩ v3).setCell ⟨p, 4, none⟩ v4).setCell ⟨p, 5, none⟩ v5).setCell ⟨p, 6, none⟩ v6).setCell ⟨p, 7, none⟩ v7).setCell ⟨p, 8, none⟩ v8).cell? ⟨N, 1, none⟩ = some (.int .u8 (q 1)) ∧ (((((((((W.setCell ⟨p, 0, none⟩ v0).setCell ⟨p, 1, none⟩ v1).setCell ⟨p, 2, none⟩ v2).setCell ⟨p, 3, none⟩ v3).setCell ⟨p, 4, none⟩ v4).setCell ⟨p, 5, none⟩ v5).setCell ⟨p, 6, none⟩ v6).setCell ⟨p, 7, none⟩ v7).setCell ⟨p, 8, none⟩ v8).cell? ⟨N, 2, none⟩ = some (.int .u8 (q 2)) ∧ (((((((((W.setCell ⟨p, 0, none⟩ v0).setCell ⟨p, 1, none⟩ v1).setCell ⟨p, 2, none⟩ v2).setCell ⟨p, 3, none⟩ v3).setCell ⟨p, 4, none⟩ v4).setCell ⟨p, 5, none⟩ v5).setCell ⟨p, 6, none⟩ v6).setCell ⟨p, 7, none⟩ v7).setCell ⟨p, 8, none⟩ v8).cell? ⟨N, 3, none⟩ = some (.int .u8 (q 3)) ∧ (((((((((W.setCell ⟨p, 0, none⟩ v0).setCell ⟨p, 1, none⟩ v1).setCell ⟨p, 2, none⟩ v2).setCell ⟨p, 3, none⟩ v3).setCell ⟨p, 4, none⟩ v4).setCell ⟨p, 5, none⟩ v5).setCell ⟨p, 6, none⟩ v6).setCell ⟨p, 7, none⟩ v7).setCell ⟨p, 8, none⟩ v8).cell? ⟨N, 4, none⟩ = some (.int .u8 (q 4)) ∧ (((((((((W.setCell ⟨p, 0, none⟩ v0).setCell ⟨p, 1, none⟩ v1).setCell ⟨p, 2, none⟩ v2).setCell ⟨p, 3, none⟩ v3).setCell ⟨p, 4, none⟩ v4).setCell ⟨p, 5, none⟩ v5).setCell ⟨p, 6, none⟩ v6).setCell ⟨p, 7, none⟩ v7).setCell ⟨p, 8, none⟩ v8).cell? ⟨N, 5, none⟩ = some (.int .u8 (q 5)) ∧ (((((((((W.setCell ⟨p, 0, none⟩ v0).setCell ⟨p, 1, none⟩ v1).setCell ⟨p, 2, none⟩ v2).setCell ⟨p, 3, none⟩ v3).setCell ⟨p, 4, none⟩ v4).setCell ⟨p, 5, none⟩ v5).setCell ⟨p, 6, none⟩ v6).setCell ⟨p, 7, none⟩ v7).setCell ⟨p, 8, none⟩ v8).cell? ⟨N, 6, none⟩ = some (.int .u8 (q 6)) ∧ (((((((((W.setCell ⟨p, 0, none⟩ v0).setCell ⟨p, 1, none⟩ v1).setCell ⟨p, 2, none⟩ v2).setCell ⟨p, 3, none⟩ v3).setCell ⟨p, 4, none⟩ v4).setCell ⟨p, 5, none⟩ v5).setCell ⟨p, 6, none⟩ v6).setCell ⟨p, 7, none⟩ v7).setCell ⟨p, 8, none⟩ v8).cell? ⟨N, 7, none⟩ = some (.int .u8 (q 7)) ∧ (((((((((W.setCell ⟨p, 0, none⟩ v0).setCell ⟨p, 1, none⟩ v1).setCell ⟨p, 2, none⟩ v2).setCell ⟨p, 3, none⟩ v3).setCell ⟨p, 4, none⟩ v4).setCell ⟨p, 5, none⟩ v5).setCell ⟨p, 6, none⟩ v6).setCell ⟨p, 7, none⟩ v7).setCell ⟨p, 8, none⟩ v8).cell? ⟨N, 11, none⟩ = some (.slice ab nb cb) ∧ Below wA.heap.size wA (((((((((W.setCell ⟨p, 0, none⟩ v0).setCell ⟨p, 1, none⟩ v1).setCell ⟨p, 2, none⟩ v2).setCell ⟨p, 3, none⟩ v3).setCell ⟨p, 4, none⟩ v4).setCell ⟨p, 5, none⟩ v5).setCell ⟨p, 6, none⟩ v6).setCell ⟨p, 7, none⟩ v7).setCell ⟨p, 8, none⟩ v8) ∧ N < wA.heap.size :=
  bs_kept h (((((((((((Below.refl _ W).setCell (by exact hp) _).setCell (by exact hp) _).setCell (by exact hp) _).setCell (by exact hp) _).setCell (by exact hp) _).setCell (by exact hp) _).setCell (by exact hp) _).setCell (by exact hp) _).setCell (by exact hp) _))
theorem bs_realloc {o o' : Obj} (h : (W.alloc o).cell? ⟨N, 0, none⟩ = some (.int .u8 (q 0)) ∧ (W.alloc o).cell? ⟨N, 1, none⟩ = some (.int .u8 (q 1)) ∧ (W.alloc o).cell? ⟨N, 2, none⟩ = some (.int .u8 (q 2)) ∧ (W.alloc o).cell? ⟨N, 3, none⟩ = some (.int .u8 (q 3)) ∧ (W.alloc o).cell? ⟨N, 4, none⟩ = some (.int .u8 (q 4)) ∧ (W.alloc o).cell? ⟨N, 5, none⟩ = some (.int .u8 (q 5)) ∧ (W.alloc o).cell? ⟨N, 6, none⟩ = some (.int .u8 (q 6)) ∧ (W.alloc o).cell? ⟨N, 7, none⟩ = some (.int .u8 (q 7)) ∧ (W.alloc o).cell? ⟨N, 11, none⟩ = some (.slice ab nb cb) ∧ Below wA.heap.size wA (W.alloc o) ∧ N < wA.heap.size) (hz : wA.heap.size ≤ W.heap.size) : (W.alloc o').cell? ⟨N, 0, none⟩ = some (.int .u8 (q 0)) ∧ (W.alloc o').cell? ⟨N, 1, none⟩ = some (.int .u8 (q 1)) ∧ (W.alloc o').cell? ⟨N, 2, none⟩ = some (.int .u8 (q 2)) ∧ (W.alloc o').cell? ⟨N, 3, none⟩ = some (.int .u8 (q 3)) ∧ (W.alloc o').cell? ⟨N, 4, none⟩ = some (.int .u8 (q 4)) ∧ (W.alloc o').cell? ⟨N, 5, none⟩ = some (.int .u8 (q 5)) ∧ (W.alloc o').cell? ⟨N, 6, none⟩ = some (.int .u8 (q 6)) ∧ (W.alloc o').cell? ⟨N, 7, none⟩ = some (.int .u8 (q 7)) ∧ (W.alloc o').cell? ⟨N, 11, none⟩ = some (.slice ab nb cb) ∧ Below wA.heap.size wA (W.alloc o') ∧ N < wA.heap.size := by
  obtain ⟨h0, h1, h2, h3, h4, h5, h6, h7, h11, hB, hN⟩ := h
  have hb : ∀ k, k < W.heap.size → (W.alloc o').heap[k]? = (W.alloc o).heap[k]? := fun k hk => (Below.heap_alloc _ _ _ hk).trans (Below.heap_alloc _ _ _ hk).symm
  have hn := hb N (Nat.lt_of_lt_of_le hN hz)
  exact ⟨(World.cell?_of_block hn).trans h0, (World.cell?_of_block hn).trans h1, (World.cell?_of_block hn).trans h2, (World.cell?_of_block hn).trans h3, (World.cell?_of_block hn).trans h4, (World.cell?_of_block hn).trans h5, (World.cell?_of_block hn).trans h6, (World.cell?_of_block hn).trans h7, (World.cell?_of_block hn).trans h11, ⟨hB.os, hB.tape, hB.output, by have := hB.size; simpa using this, fun k hk => (hb k (by omega)).trans (hB.block k hk)⟩, hN⟩
end
theorem u8_and63 (x : Int) (h : 0 ≤ x ∧ x < 256) : bits .and .u8 x 63 = x % 64 := by
  have e1 : (BitVec.ofInt 8 x).toNat = x.toNat := by rw [BitVec.toNat_ofInt]; omega
  have key : (BitVec.ofInt 8 x &&& BitVec.ofInt 8 63).toNat = x.toNat % 64 := by
    rw [BitVec.toNat_and, e1]; exact Nat.and_two_pow_sub_one_eq_mod x.toNat 6
  show IntKind.u8.wrap ((BitVec.ofInt 8 x &&& BitVec.ofInt 8 63).toNat : Nat) = _
  rw [key, IntKind.wrap_u8]; omega
theorem step_append_copy {ops : Array Oper} {o : Oper} {a : Act} {w : World} {K : Act → World → Prop} {Q : Exit → Act → World → Prop} {E : Prop} (hgd : o.guard = none) (s x : Operand)
    (ho : o.op = .call { callee := .builtin .append, args := #[s, x], argTypes := #[26, 26] }) (ad : Option Addr) (n c : Nat) (l : List Int) (hs : a.eval s = .slice none 0 0) (hx : a.eval x = .slice ad n c) (hb : BAt w ad n l) (hn : n ≤ 140737488355328)
    (h : ∀ a' c' w', Own w' w.heap.size a' n c' l → Below w.heap.size w w' → K (a.put o.dst (.slice a' n c')) w') :
    if Region.wanted o (yielded ops a.tmps) = true then Oper.wp Try.prog o a w K Q else E := by
  obtain ⟨a', c', w', hr, ho', hg⟩ := append_copy w o.type ad n c l hb hn
  exact step_append_run hgd s x _ _ ho _ _ hs hx _ _ hr (h a' c' w' ho' hg)
set_option maxHeartbeats 1000000 in
set_option maxRecDepth 100000 in
theorem pbytes_any (q : Nat → Int) (BB : Int) (X : Nat) (ab : Option Addr) (nb cb : Nat) (l : List Int) (w : World) (h0 : 0 ≤ q 0 ∧ q 0 < 256) (hb : BAt w ab nb l) (hn : nb ≤ 1000000) :
    Calls Try.prog 30 #[rpc q BB X ab nb cb] w (BytesOut q l w) := by
  unfold rpc
  have HB := Lib.hid hb; clear hb
  go_enter Try.func30, Try.ntmps30
  go_wp2
  obtain ⟨w0, hw0⟩ : ∃ u, (w.alloc (.cells #[.int .u8 (q 0), .int .u8 (q 1), .int .u8 (q 2), .int .u8 (q 3), .int .u8 (q 4), .int .u8 (q 5), .int .u8 (q 6), .int .u8 (q 7), .int .u16 BB, .int .u64 (Mk.H X), .int .u64 (Mk.L X), .slice ab nb cb] 32)).alloc (.cells #[.int .u8 0, .int .u8 0, .int .u8 0, .int .u8 0, .int .u8 0, .int .u8 0, .int .u8 0, .int .u8 0, .slice none 0 0] 57) = u := ⟨_, rfl⟩
  have hr0 : w0.heap[w.heap.size]? = some (.cells #[.int .u8 (q 0), .int .u8 (q 1), .int .u8 (q 2), .int .u8 (q 3), .int .u8 (q 4), .int .u8 (q 5), .int .u8 (q 6), .int .u8 (q 7), .int .u16 BB, .int .u64 (Mk.H X), .int .u64 (Mk.L X), .slice ab nb cb] 32 (0, 0)) := by rw [← hw0]; exact lit_old rfl
  have hlow : Below w.heap.size w w0 := by rw [← hw0]; exact ((Below.refl _ w).alloc (Nat.le_refl _) _).alloc (by simp) _
  have HR0 := Lib.hid hr0; have HLOW := Lib.hid hlow
  rw [hw0]
  have c0 : w0.cell? ⟨w.heap.size, 0, none⟩ = some (.int .u8 (q 0)) := by rw [cell_of_row w0 _ 0 _ _ _ hr0]; rfl
  have c1 : w0.cell? ⟨w.heap.size, 1, none⟩ = some (.int .u8 (q 1)) := by rw [cell_of_row w0 _ 1 _ _ _ hr0]; rfl
  have c2 : w0.cell? ⟨w.heap.size, 2, none⟩ = some (.int .u8 (q 2)) := by rw [cell_of_row w0 _ 2 _ _ _ hr0]; rfl
  have c3 : w0.cell? ⟨w.heap.size, 3, none⟩ = some (.int .u8 (q 3)) := by rw [cell_of_row w0 _ 3 _ _ _ hr0]; rfl
  have c4 : w0.cell? ⟨w.heap.size, 4, none⟩ = some (.int .u8 (q 4)) := by rw [cell_of_row w0 _ 4 _ _ _ hr0]; rfl
  have c5 : w0.cell? ⟨w.heap.size, 5, none⟩ = some (.int .u8 (q 5)) := by rw [cell_of_row w0 _ 5 _ _ _ hr0]; rfl
  have c6 : w0.cell? ⟨w.heap.size, 6, none⟩ = some (.int .u8 (q 6)) := by rw [cell_of_row w0 _ 6 _ _ _ hr0]; rfl
  have c7 : w0.cell? ⟨w.heap.size, 7, none⟩ = some (.int .u8 (q 7)) := by rw [cell_of_row w0 _ 7 _ _ _ hr0]; rfl
  have c11 : w0.cell? ⟨w.heap.size, 11, none⟩ = some (.slice ab nb cb) := by rw [cell_of_row w0 _ 11 _ _ _ hr0]; rfl
  have hsz : w0.heap.size = w.heap.size + 2 := by rw [← hw0]; simp
  have hx0 : w0.heap[w.heap.size + 1]? = some (.cells #[.int .u8 0, .int .u8 0, .int .u8 0, .int .u8 0, .int .u8 0, .int .u8 0, .int .u8 0, .int .u8 0, .slice none 0 0] 57 (0, 0)) := by rw [← hw0]; have := heap_alloc_new (w.alloc (.cells #[.int .u8 (q 0), .int .u8 (q 1), .int .u8 (q 2), .int .u8 (q 3), .int .u8 (q 4), .int .u8 (q 5), .int .u8 (q 6), .int .u8 (q 7), .int .u16 BB, .int .u64 (Mk.H X), .int .u64 (Mk.L X), .slice ab nb cb] 32)) (.cells #[.int .u8 0, .int .u8 0, .int .u8 0, .int .u8 0, .int .u8 0, .int .u8 0, .int .u8 0, .int .u8 0, .slice none 0 0] 57); simpa using this
  have HX0 := Lib.hid hx0
  have HS0 := Lib.hid (show w0.cell? ⟨w.heap.size, 0, none⟩ = some (.int .u8 (q 0)) ∧ w0.cell? ⟨w.heap.size, 1, none⟩ = some (.int .u8 (q 1)) ∧ w0.cell? ⟨w.heap.size, 2, none⟩ = some (.int .u8 (q 2)) ∧ w0.cell? ⟨w.heap.size, 3, none⟩ = some (.int .u8 (q 3)) ∧ w0.cell? ⟨w.heap.size, 4, none⟩ = some (.int .u8 (q 4)) ∧ w0.cell? ⟨w.heap.size, 5, none⟩ = some (.int .u8 (q 5)) ∧ w0.cell? ⟨w.heap.size, 6, none⟩ = some (.int .u8 (q 6)) ∧ w0.cell? ⟨w.heap.size, 7, none⟩ = some (.int .u8 (q 7)) ∧ w0.cell? ⟨w.heap.size, 11, none⟩ = some (.slice ab nb cb) ∧ Below w0.heap.size w0 w0 ∧ w.heap.size < w0.heap.size from ⟨c0, c1, c2, c3, c4, c5, c6, c7, c11, Below.refl _ _, by omega⟩)
  have HT : Hid (∀ W, Below w0.heap.size w0 W → Below w.heap.size w W) := Lib.hid fun W hW => hlow.trans (hW.mono (by omega))
  have hz0 : w0.heap.size ≤ w0.drew.heap.size := Nat.le_refl _
  have hz1 : w0.heap.size ≤ w0.heap.size := Nat.le_refl _
  have HSZ := Lib.hid hsz
  have hS0 := HS0.out
  clear hr0 hlow hw0 hx0 hsz c0 c1 c2 c3 c4 c5 c6 c7 c11
  go_region_held3 (fun W => W.cell? ⟨w.heap.size, 0, none⟩ = some (.int .u8 (q 0)) ∧ W.cell? ⟨w.heap.size, 1, none⟩ = some (.int .u8 (q 1)) ∧ W.cell? ⟨w.heap.size, 2, none⟩ = some (.int .u8 (q 2)) ∧ W.cell? ⟨w.heap.size, 3, none⟩ = some (.int .u8 (q 3)) ∧ W.cell? ⟨w.heap.size, 4, none⟩ = some (.int .u8 (q 4)) ∧ W.cell? ⟨w.heap.size, 5, none⟩ = some (.int .u8 (q 5)) ∧ W.cell? ⟨w.heap.size, 6, none⟩ = some (.int .u8 (q 6)) ∧ W.cell? ⟨w.heap.size, 7, none⟩ = some (.int .u8 (q 7)) ∧ W.cell? ⟨w.heap.size, 11, none⟩ = some (.slice ab nb cb) ∧ Below w0.heap.size w0 W ∧ w.heap.size < w0.heap.size)
    (first | with_reducible assumption | with_reducible exact bs_drew (by with_reducible assumption) | with_reducible exact bs_alloc (by with_reducible assumption) | with_reducible exact bs_drew (bs_alloc (by with_reducible assumption)) | with_reducible exact bs_alloc (bs_drew (by with_reducible assumption)) | with_reducible exact bs_below (by with_reducible assumption) (by with_reducible assumption) | with_reducible exact bs_put (by with_reducible assumption) (by with_reducible assumption) | with_reducible exact bs_realloc (by with_reducible assumption) (by with_reducible assumption))
    (first
      | (refine step_append_copy rfl (.const (.slice none 0 0)) (.tmp 7) rfl ab nb cb l (by rfl) (by rfl) (HB.out.below (HT.out _ (bs_b (by assumption)))) (by omega) ?_; intro a5 e5 w5 hO5 hB5; have hz5 : w0.heap.size ≤ w5.heap.size := Nat.le_trans (bs_b (by assumption)).size hB5.size; (first | (have hp := row_firstd hB5; obtain ⟨z0, z1, z2, z3, z4, z5, z6, z7, z8, y0, y1, y2, y3, y4, y5, y6, y7, y8⟩ := cells9 hp) | (have hp := row_first hB5; obtain ⟨z0, z1, z2, z3, z4, z5, z6, z7, z8, y0, y1, y2, y3, y4, y5, y6, y7, y8⟩ := cells9 hp) | (have hp := row_dfirst hB5; obtain ⟨z0, z1, z2, z3, z4, z5, z6, z7, z8, y0, y1, y2, y3, y4, y5, y6, y7, y8⟩ := cells9 hp) | skip)))
  all_goals (
    first
      | (have hr : (w5.alloc (.cells #[.int .u8 (q 0), .int .u8 (q 1), .int .u8 (q 2), .int .u8 (q 3), .int .u8 (q 4), .int .u8 (q 5), .int .u8 (q 6), .int .u8 (q 7), .slice a5 nb e5] 57)).heap[w5.heap.size]? = some (.cells #[.int .u8 (q 0), .int .u8 (q 1), .int .u8 (q 2), .int .u8 (q 3), .int .u8 (q 4), .int .u8 (q 5), .int .u8 (q 6), .int .u8 (q 7), .slice a5 nb e5] 57 (0, 0)) := lit_new rfl; have hB : Below w0.heap.size w0 (w5.alloc (.cells #[.int .u8 (q 0), .int .u8 (q 1), .int .u8 (q 2), .int .u8 (q 3), .int .u8 (q 4), .int .u8 (q 5), .int .u8 (q 6), .int .u8 (q 7), .slice a5 nb e5] 57)) := bs_b (by with_reducible assumption); have hO : Own (w5.alloc (.cells #[.int .u8 (q 0), .int .u8 (q 1), .int .u8 (q 2), .int .u8 (q 3), .int .u8 (q 4), .int .u8 (q 5), .int .u8 (q 6), .int .u8 (q 7), .slice a5 nb e5] 57)) w0.heap.size a5 nb e5 l := (hO5.below ((Below.refl _ w5).alloc (Nat.le_refl _) _)).mono (Nat.le_refl _); have hpn : ∀ y, a5 = some y → y.block ≠ w5.heap.size := fun y hy => Nat.ne_of_lt (hO5.blk y hy).2; generalize w5.alloc (.cells #[.int .u8 (q 0), .int .u8 (q 1), .int .u8 (q 2), .int .u8 (q 3), .int .u8 (q 4), .int .u8 (q 5), .int .u8 (q 6), .int .u8 (q 7), .slice a5 nb e5] 57) = W1 at hr hB hO ⊢; have hpz := hz5; generalize w5.heap.size = p at hr hpz hpn ⊢)
      | (have hr : (((((((((w5.setCell ⟨w0.heap.size, 0, none⟩ (.int .u8 (q 0))).setCell ⟨w0.heap.size, 1, none⟩ (.int .u8 (q 1))).setCell ⟨w0.heap.size, 2, none⟩ (.int .u8 (q 2))).setCell ⟨w0.heap.size, 3, none⟩ (.int .u8 (q 3))).setCell ⟨w0.heap.size, 4, none⟩ (.int .u8 (q 4))).setCell ⟨w0.heap.size, 5, none⟩ (.int .u8 (q 5))).setCell ⟨w0.heap.size, 6, none⟩ (.int .u8 (q 6))).setCell ⟨w0.heap.size, 7, none⟩ (.int .u8 (q 7))).setCell ⟨w0.heap.size, 8, none⟩ (.slice a5 nb e5)).heap[w0.heap.size]? = some (.cells #[.int .u8 (q 0), .int .u8 (q 1), .int .u8 (q 2), .int .u8 (q 3), .int .u8 (q 4), .int .u8 (q 5), .int .u8 (q 6), .int .u8 (q 7), .slice a5 nb e5] 57 (0, 0)) := (putL_is (vs := [.int .u8 (q 0), .int .u8 (q 1), .int .u8 (q 2), .int .u8 (q 3), .int .u8 (q 4), .int .u8 (q 5), .int .u8 (q 6), .int .u8 (q 7), .slice a5 nb e5]) (us := [.int .u8 0, .int .u8 0, .int .u8 0, .int .u8 0, .int .u8 0, .int .u8 0, .int .u8 0, .int .u8 0, .slice none 0 0]) (by with_reducible assumption) rfl).row; have hg := (putL_is (W := w5) (b := w0.heap.size) (vs := [.int .u8 (q 0), .int .u8 (q 1), .int .u8 (q 2), .int .u8 (q 3), .int .u8 (q 4), .int .u8 (q 5), .int .u8 (q 6), .int .u8 (q 7), .slice a5 nb e5]) (us := [.int .u8 0, .int .u8 0, .int .u8 0, .int .u8 0, .int .u8 0, .int .u8 0, .int .u8 0, .int .u8 0, .slice none 0 0]) (by with_reducible assumption) rfl).grown; have hB : Below w0.heap.size w0 (((((((((w5.setCell ⟨w0.heap.size, 0, none⟩ (.int .u8 (q 0))).setCell ⟨w0.heap.size, 1, none⟩ (.int .u8 (q 1))).setCell ⟨w0.heap.size, 2, none⟩ (.int .u8 (q 2))).setCell ⟨w0.heap.size, 3, none⟩ (.int .u8 (q 3))).setCell ⟨w0.heap.size, 4, none⟩ (.int .u8 (q 4))).setCell ⟨w0.heap.size, 5, none⟩ (.int .u8 (q 5))).setCell ⟨w0.heap.size, 6, none⟩ (.int .u8 (q 6))).setCell ⟨w0.heap.size, 7, none⟩ (.int .u8 (q 7))).setCell ⟨w0.heap.size, 8, none⟩ (.slice a5 nb e5)) := bs_b (by with_reducible assumption); have hO : Own (((((((((w5.setCell ⟨w0.heap.size, 0, none⟩ (.int .u8 (q 0))).setCell ⟨w0.heap.size, 1, none⟩ (.int .u8 (q 1))).setCell ⟨w0.heap.size, 2, none⟩ (.int .u8 (q 2))).setCell ⟨w0.heap.size, 3, none⟩ (.int .u8 (q 3))).setCell ⟨w0.heap.size, 4, none⟩ (.int .u8 (q 4))).setCell ⟨w0.heap.size, 5, none⟩ (.int .u8 (q 5))).setCell ⟨w0.heap.size, 6, none⟩ (.int .u8 (q 6))).setCell ⟨w0.heap.size, 7, none⟩ (.int .u8 (q 7))).setCell ⟨w0.heap.size, 8, none⟩ (.slice a5 nb e5)) w0.heap.size a5 nb e5 l := (hO5.off hg (by simp)).mono (by simp); have hpn : ∀ y, a5 = some y → y.block ≠ w0.heap.size := fun y hy => (by have := (hO5.blk y hy).1; simp at this; omega); generalize (((((((((w5.setCell ⟨w0.heap.size, 0, none⟩ (.int .u8 (q 0))).setCell ⟨w0.heap.size, 1, none⟩ (.int .u8 (q 1))).setCell ⟨w0.heap.size, 2, none⟩ (.int .u8 (q 2))).setCell ⟨w0.heap.size, 3, none⟩ (.int .u8 (q 3))).setCell ⟨w0.heap.size, 4, none⟩ (.int .u8 (q 4))).setCell ⟨w0.heap.size, 5, none⟩ (.int .u8 (q 5))).setCell ⟨w0.heap.size, 6, none⟩ (.int .u8 (q 6))).setCell ⟨w0.heap.size, 7, none⟩ (.int .u8 (q 7))).setCell ⟨w0.heap.size, 8, none⟩ (.slice a5 nb e5)) = W1 at hr hB hO ⊢; have hpz := hz1; generalize hpe : w0.heap.size = p at hr hpn ⊢; rw [hpe] at hpz)
    have hx1 := (hB.block _ (Array.getElem?_eq_some_iff.1 HX0.out).1).trans HX0.out
    have hb1 := HT.out _ hB
    have hln := HB.out.len
    have HR := Lib.hid hr; have HB1 := Lib.hid hb1; have HO := Lib.hid hO; have HX1 := Lib.hid hx1; have HPN := Lib.hid hpn
    have hps : w.heap.size + 2 ≤ p := by have := HSZ.out; omega
    have hne1 : p ≠ w.heap.size + 1 := by omega
    have hne2 : w.heap.size + 1 ≠ p := by omega
    have hand := u8_and63 (q 0) h0
    obtain ⟨m, hm⟩ : ∃ x, q 0 % 64 = x := ⟨_, rfl⟩
    rw [hm] at hand
    have HM := Lib.hid (And.intro hm hln)
    clear hr hB hb1 hO hx1 hpn hO5 hB5 hz5 HS0 hS0 hz0 hz1 hm hln
    have p0 : W1.cell? ⟨p, 0, none⟩ = some (.int .u8 (q 0)) := by rw [cell_of_row W1 _ 0 _ _ _ HR.out]; rfl
    have p1 : W1.cell? ⟨p, 1, none⟩ = some (.int .u8 (q 1)) := by rw [cell_of_row W1 _ 1 _ _ _ HR.out]; rfl
    have p2 : W1.cell? ⟨p, 2, none⟩ = some (.int .u8 (q 2)) := by rw [cell_of_row W1 _ 2 _ _ _ HR.out]; rfl
    have p3 : W1.cell? ⟨p, 3, none⟩ = some (.int .u8 (q 3)) := by rw [cell_of_row W1 _ 3 _ _ _ HR.out]; rfl
    have p4 : W1.cell? ⟨p, 4, none⟩ = some (.int .u8 (q 4)) := by rw [cell_of_row W1 _ 4 _ _ _ HR.out]; rfl
    have p5 : W1.cell? ⟨p, 5, none⟩ = some (.int .u8 (q 5)) := by rw [cell_of_row W1 _ 5 _ _ _ HR.out]; rfl
    have p6 : W1.cell? ⟨p, 6, none⟩ = some (.int .u8 (q 6)) := by rw [cell_of_row W1 _ 6 _ _ _ HR.out]; rfl
    have p7 : W1.cell? ⟨p, 7, none⟩ = some (.int .u8 (q 7)) := by rw [cell_of_row W1 _ 7 _ _ _ HR.out]; rfl
    have p8 : W1.cell? ⟨p, 8, none⟩ = some (.slice a5 nb e5) := by rw [cell_of_row W1 _ 8 _ _ _ HR.out]; rfl
    have pf : ∀ o, W1.frozen? ⟨p, o, none⟩ = false := fun o => frozen_of_row W1 _ o _ _ HR.out
    have z0 : W1.cell? ⟨w.heap.size + 1, 0, none⟩ = some (.int .u8 0) := by rw [cell_of_row W1 _ 0 _ _ _ HX1.out]; rfl
    have z1 : W1.cell? ⟨w.heap.size + 1, 1, none⟩ = some (.int .u8 0) := by rw [cell_of_row W1 _ 1 _ _ _ HX1.out]; rfl
    have z2 : W1.cell? ⟨w.heap.size + 1, 2, none⟩ = some (.int .u8 0) := by rw [cell_of_row W1 _ 2 _ _ _ HX1.out]; rfl
    have z3 : W1.cell? ⟨w.heap.size + 1, 3, none⟩ = some (.int .u8 0) := by rw [cell_of_row W1 _ 3 _ _ _ HX1.out]; rfl
    have z4 : W1.cell? ⟨w.heap.size + 1, 4, none⟩ = some (.int .u8 0) := by rw [cell_of_row W1 _ 4 _ _ _ HX1.out]; rfl
    have z5 : W1.cell? ⟨w.heap.size + 1, 5, none⟩ = some (.int .u8 0) := by rw [cell_of_row W1 _ 5 _ _ _ HX1.out]; rfl
    have z6 : W1.cell? ⟨w.heap.size + 1, 6, none⟩ = some (.int .u8 0) := by rw [cell_of_row W1 _ 6 _ _ _ HX1.out]; rfl
    have z7 : W1.cell? ⟨w.heap.size + 1, 7, none⟩ = some (.int .u8 0) := by rw [cell_of_row W1 _ 7 _ _ _ HX1.out]; rfl
    have z8 : W1.cell? ⟨w.heap.size + 1, 8, none⟩ = some (.slice none 0 0) := by rw [cell_of_row W1 _ 8 _ _ _ HX1.out]; rfl
    have zf : ∀ o, W1.frozen? ⟨w.heap.size + 1, o, none⟩ = false := fun o => frozen_of_row W1 _ o _ _ HX1.out
    go_wp2_with fail
    obtain ⟨W2, hW2⟩ : ∃ u, W1.setCell ⟨p, 0, none⟩ (.int .u8 m) = u := ⟨_, rfl⟩
    have hx2 : W2.heap[w.heap.size + 1]? = some (.cells #[.int .u8 0, .int .u8 0, .int .u8 0, .int .u8 0, .int .u8 0, .int .u8 0, .int .u8 0, .int .u8 0, .slice none 0 0] 57 (0, 0)) := by rw [← hW2]; exact (Below.heap_setCell _ _ _ _ (by exact hne2)).trans HX1.out
    have hg2 : W1.grownBy W2 (some p) := by rw [← hW2]; exact set_grown _ _ _ _
    rw [hW2]
    obtain ⟨W3, hW3⟩ : ∃ u, putL W2 (w.heap.size + 1) 0 [.int .u8 m, .int .u8 (q 1), .int .u8 (q 2), .int .u8 (q 3), .int .u8 (q 4), .int .u8 (q 5), .int .u8 (q 6), .int .u8 (q 7), .slice a5 nb e5] = u := ⟨_, rfl⟩
    have P3 : Put W2 W3 (w.heap.size + 1) #[.int .u8 m, .int .u8 (q 1), .int .u8 (q 2), .int .u8 (q 3), .int .u8 (q 4), .int .u8 (q 5), .int .u8 (q 6), .int .u8 (q 7), .slice a5 nb e5] 57 := by rw [← hW3]; exact putL_is (us := [.int .u8 0, .int .u8 0, .int .u8 0, .int .u8 0, .int .u8 0, .int .u8 0, .int .u8 0, .int .u8 0, .slice none 0 0]) hx2 rfl
    simp only [putL, Nat.zero_add, Nat.reduceAdd] at hW3
    rw [hW3]
    have hb3 : Below w.heap.size w W3 := (HB1.out.grown hg2 HB1.out.size (fun k e => by cases e; omega)).grown P3.grown (Nat.le_trans HB1.out.size hg2.size) (fun k e => by cases e; omega)
    have hO3 : Own W3 w0.heap.size a5 nb e5 l := (HO.out.kept hg2 (fun y hy e => HPN.out y hy (by cases e; rfl))).kept P3.grown (fun y hy e => by have := (HO.out.blk y hy).1; have := HSZ.out; injection e with e; omega)
    have hr3 := P3.row
    have HB3 := Lib.hid hb3; have HO3 := Lib.hid (hO3.mono (base' := w.heap.size) (by have := HSZ.out; omega)); have HR3 := Lib.hid hr3
    clear hW2 hW3 hx2 hg2 P3 hb3 hO3 hr3 p0 p1 p2 p3 p4 p5 p6 p7 p8 pf z0 z1 z2 z3 z4 z5 z6 z7 z8 zf
    have y0 : W3.cell? ⟨w.heap.size + 1, 0, none⟩ = some (.int .u8 m) := by rw [cell_of_row W3 _ 0 _ _ _ HR3.out]; rfl
    have y1 : W3.cell? ⟨w.heap.size + 1, 1, none⟩ = some (.int .u8 (q 1)) := by rw [cell_of_row W3 _ 1 _ _ _ HR3.out]; rfl
    have y2 : W3.cell? ⟨w.heap.size + 1, 2, none⟩ = some (.int .u8 (q 2)) := by rw [cell_of_row W3 _ 2 _ _ _ HR3.out]; rfl
    have y3 : W3.cell? ⟨w.heap.size + 1, 3, none⟩ = some (.int .u8 (q 3)) := by rw [cell_of_row W3 _ 3 _ _ _ HR3.out]; rfl
    have y4 : W3.cell? ⟨w.heap.size + 1, 4, none⟩ = some (.int .u8 (q 4)) := by rw [cell_of_row W3 _ 4 _ _ _ HR3.out]; rfl
    have y5 : W3.cell? ⟨w.heap.size + 1, 5, none⟩ = some (.int .u8 (q 5)) := by rw [cell_of_row W3 _ 5 _ _ _ HR3.out]; rfl
    have y6 : W3.cell? ⟨w.heap.size + 1, 6, none⟩ = some (.int .u8 (q 6)) := by rw [cell_of_row W3 _ 6 _ _ _ HR3.out]; rfl
    have y7 : W3.cell? ⟨w.heap.size + 1, 7, none⟩ = some (.int .u8 (q 7)) := by rw [cell_of_row W3 _ 7 _ _ _ HR3.out]; rfl
    have y8 : W3.cell? ⟨w.heap.size + 1, 8, none⟩ = some (.slice a5 nb e5) := by rw [cell_of_row W3 _ 8 _ _ _ HR3.out]; rfl
    refine bodyPost_ret (v := .agg #[.int .u8 m, .int .u8 (q 1), .int .u8 (q 2), .int .u8 (q 3), .int .u8 (q 4), .int .u8 (q 5), .int .u8 (q 6), .int .u8 (q 7), .slice a5 nb e5]) (by simp [results, Try.results30, go_sem, y0, y1, y2, y3, y4, y5, y6, y7, y8]) rfl ⟨a5, e5, ?_, ?_, HB3.out⟩
    · rw [HM.out.1, HM.out.2]
    · rw [HM.out.2]; exact HO3.out)
end Go.Proofs.Ytedhmoihlfjbdaa
