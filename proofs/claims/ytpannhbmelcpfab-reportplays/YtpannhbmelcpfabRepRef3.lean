
/-
  confluxref08: Report; confluxlaw08.same.
-/
import Derived.Test.YtpannhbmelcpfabRepRef2
import Derived.Deep.RegionLaw
namespace Go.Proofs.Ytpannhbmelcpfab
open Go.RowKit
set_option linter.unusedVariables false
attribute [local go_sem] Oper.semAt_some
/-- Cells and freedom of a row of seven. -/
def Cells7 (W : World) (p : Nat) (v0 v1 v2 v3 v4 v5 v6 : Value) : Prop :=
  W.cell? ⟨p, 0, none⟩ = some v0 ∧ W.cell? ⟨p, 1, none⟩ = some v1 ∧ W.cell? ⟨p, 2, none⟩ = some v2 ∧ W.cell? ⟨p, 3, none⟩ = some v3 ∧ W.cell? ⟨p, 4, none⟩ = some v4 ∧ W.cell? ⟨p, 5, none⟩ = some v5 ∧ W.cell? ⟨p, 6, none⟩ = some v6 ∧
  W.frozen? ⟨p, 0, none⟩ = false ∧ W.frozen? ⟨p, 1, none⟩ = false ∧ W.frozen? ⟨p, 2, none⟩ = false ∧ W.frozen? ⟨p, 3, none⟩ = false ∧ W.frozen? ⟨p, 4, none⟩ = false ∧ W.frozen? ⟨p, 5, none⟩ = false ∧ W.frozen? ⟨p, 6, none⟩ = false
theorem cells7 {W : World} {p : Nat} {v0 v1 v2 v3 v4 v5 v6 : Value} {t : TypeId} (h : W.heap[p]? = some (.cells #[v0, v1, v2, v3, v4, v5, v6] t (0, 0))) : Cells7 W p v0 v1 v2 v3 v4 v5 v6 := by
  refine ⟨?_, ?_, ?_, ?_, ?_, ?_, ?_, ?_, ?_, ?_, ?_, ?_, ?_, ?_⟩
  all_goals first | (rw [cell_of_row W _ _ _ _ _ h]; rfl) | exact frozen_of_row W _ _ _ _ h
/-- The block of zeros made ahead of a call. -/
theorem row_first {W w2 : World} {o : Obj} (hb : Below (W.alloc o).heap.size (W.alloc o) w2) : w2.heap[W.heap.size]? = some o :=
  (hb.block _ (by simp)).trans (heap_new W o)
theorem row_firstd {W w2 : World} {o : Obj} (hb : Below (W.alloc o).drew.heap.size (W.alloc o).drew w2) : w2.heap[W.heap.size]? = some o :=
  (hb.block W.heap.size (by show W.heap.size < (W.alloc o).heap.size; simp)).trans (heap_new W o)
theorem row_next {W w2 : World} {p : Nat} {o : Obj} (h : W.heap[p]? = some o) (hb : Below W.heap.size W w2) : w2.heap[p]? = some o :=
  (hb.block _ (Array.getElem?_eq_some_iff.1 h).1).trans h
theorem row7_s0 {W : World} {p : Nat} {t : TypeId} {x0 x1 x2 x3 x4 x5 x6 v : Value} (h : W.heap[p]? = some (.cells #[x0, x1, x2, x3, x4, x5, x6] t (0, 0))) : (W.setCell ⟨p, 0, none⟩ v).heap[p]? = some (.cells #[v, x1, x2, x3, x4, x5, x6] t (0, 0)) := heap_setCell_same W p 0 _ _ _ h
theorem row7_s1 {W : World} {p : Nat} {t : TypeId} {x0 x1 x2 x3 x4 x5 x6 v : Value} (h : W.heap[p]? = some (.cells #[x0, x1, x2, x3, x4, x5, x6] t (0, 0))) : (W.setCell ⟨p, 1, none⟩ v).heap[p]? = some (.cells #[x0, v, x2, x3, x4, x5, x6] t (0, 0)) := heap_setCell_same W p 1 _ _ _ h
theorem row7_s2 {W : World} {p : Nat} {t : TypeId} {x0 x1 x2 x3 x4 x5 x6 v : Value} (h : W.heap[p]? = some (.cells #[x0, x1, x2, x3, x4, x5, x6] t (0, 0))) : (W.setCell ⟨p, 2, none⟩ v).heap[p]? = some (.cells #[x0, x1, v, x3, x4, x5, x6] t (0, 0)) := heap_setCell_same W p 2 _ _ _ h
theorem row7_s3 {W : World} {p : Nat} {t : TypeId} {x0 x1 x2 x3 x4 x5 x6 v : Value} (h : W.heap[p]? = some (.cells #[x0, x1, x2, x3, x4, x5, x6] t (0, 0))) : (W.setCell ⟨p, 3, none⟩ v).heap[p]? = some (.cells #[x0, x1, x2, v, x4, x5, x6] t (0, 0)) := heap_setCell_same W p 3 _ _ _ h
theorem row7_s4 {W : World} {p : Nat} {t : TypeId} {x0 x1 x2 x3 x4 x5 x6 v : Value} (h : W.heap[p]? = some (.cells #[x0, x1, x2, x3, x4, x5, x6] t (0, 0))) : (W.setCell ⟨p, 4, none⟩ v).heap[p]? = some (.cells #[x0, x1, x2, x3, v, x5, x6] t (0, 0)) := heap_setCell_same W p 4 _ _ _ h
theorem row7_s5 {W : World} {p : Nat} {t : TypeId} {x0 x1 x2 x3 x4 x5 x6 v : Value} (h : W.heap[p]? = some (.cells #[x0, x1, x2, x3, x4, x5, x6] t (0, 0))) : (W.setCell ⟨p, 5, none⟩ v).heap[p]? = some (.cells #[x0, x1, x2, x3, x4, v, x6] t (0, 0)) := heap_setCell_same W p 5 _ _ _ h
theorem row7_s6 {W : World} {p : Nat} {t : TypeId} {x0 x1 x2 x3 x4 x5 x6 v : Value} (h : W.heap[p]? = some (.cells #[x0, x1, x2, x3, x4, x5, x6] t (0, 0))) : (W.setCell ⟨p, 6, none⟩ v).heap[p]? = some (.cells #[x0, x1, x2, x3, x4, x5, v] t (0, 0)) := heap_setCell_same W p 6 _ _ _ h
theorem row7_put {W : World} {p : Nat} {t : TypeId} {z0 z1 z2 z3 z4 z5 z6 : Value} (v0 v1 v2 v3 v4 v5 v6 : Value) (h : W.heap[p]? = some (.cells #[z0, z1, z2, z3, z4, z5, z6] t (0, 0))) :
    (((((((W.setCell ⟨p, 0, none⟩ v0).setCell ⟨p, 1, none⟩ v1).setCell ⟨p, 2, none⟩ v2).setCell ⟨p, 3, none⟩ v3).setCell ⟨p, 4, none⟩ v4).setCell ⟨p, 5, none⟩ v5).setCell ⟨p, 6, none⟩ v6).heap[p]? = some (.cells #[v0, v1, v2, v3, v4, v5, v6] t (0, 0)) := by
  with_reducible exact row7_s6 (row7_s5 (row7_s4 (row7_s3 (row7_s2 (row7_s1 (row7_s0 h))))))
section
variable {N : Nat} {a : Option Addr} {m cap : Nat} {E C : Int} {wA W W' : World}
theorem by_b (h : W.cell? ⟨N, 0, none⟩ = some (.slice a m cap) ∧ W.cell? ⟨N, 1, none⟩ = some (.int .i64 E) ∧ W.cell? ⟨N, 2, none⟩ = some (.int .i64 C) ∧ Below wA.heap.size wA W ∧ N < wA.heap.size) : Below wA.heap.size wA W := h.2.2.2.1
theorem by_kept (h : W.cell? ⟨N, 0, none⟩ = some (.slice a m cap) ∧ W.cell? ⟨N, 1, none⟩ = some (.int .i64 E) ∧ W.cell? ⟨N, 2, none⟩ = some (.int .i64 C) ∧ Below wA.heap.size wA W ∧ N < wA.heap.size) (hb : Below wA.heap.size W W') :
    W'.cell? ⟨N, 0, none⟩ = some (.slice a m cap) ∧ W'.cell? ⟨N, 1, none⟩ = some (.int .i64 E) ∧ W'.cell? ⟨N, 2, none⟩ = some (.int .i64 C) ∧ Below wA.heap.size wA W' ∧ N < wA.heap.size :=
  ⟨(hb.cell (p := ⟨N, 0, none⟩) h.2.2.2.2).trans h.1, (hb.cell (p := ⟨N, 1, none⟩) h.2.2.2.2).trans h.2.1, (hb.cell (p := ⟨N, 2, none⟩) h.2.2.2.2).trans h.2.2.1, h.2.2.2.1.trans hb, h.2.2.2.2⟩
theorem by_below (h : W.cell? ⟨N, 0, none⟩ = some (.slice a m cap) ∧ W.cell? ⟨N, 1, none⟩ = some (.int .i64 E) ∧ W.cell? ⟨N, 2, none⟩ = some (.int .i64 C) ∧ Below wA.heap.size wA W ∧ N < wA.heap.size) (hb : Below W.heap.size W W') :
    W'.cell? ⟨N, 0, none⟩ = some (.slice a m cap) ∧ W'.cell? ⟨N, 1, none⟩ = some (.int .i64 E) ∧ W'.cell? ⟨N, 2, none⟩ = some (.int .i64 C) ∧ Below wA.heap.size wA W' ∧ N < wA.heap.size :=
  by_kept h (hb.mono h.2.2.2.1.size)
theorem by_drew (h : W.cell? ⟨N, 0, none⟩ = some (.slice a m cap) ∧ W.cell? ⟨N, 1, none⟩ = some (.int .i64 E) ∧ W.cell? ⟨N, 2, none⟩ = some (.int .i64 C) ∧ Below wA.heap.size wA W ∧ N < wA.heap.size) :
    W.drew.cell? ⟨N, 0, none⟩ = some (.slice a m cap) ∧ W.drew.cell? ⟨N, 1, none⟩ = some (.int .i64 E) ∧ W.drew.cell? ⟨N, 2, none⟩ = some (.int .i64 C) ∧ Below wA.heap.size wA W.drew ∧ N < wA.heap.size := by_below h ((Below.refl _ W).drew)
theorem by_alloc {o : Obj} (h : W.cell? ⟨N, 0, none⟩ = some (.slice a m cap) ∧ W.cell? ⟨N, 1, none⟩ = some (.int .i64 E) ∧ W.cell? ⟨N, 2, none⟩ = some (.int .i64 C) ∧ Below wA.heap.size wA W ∧ N < wA.heap.size) :
    (W.alloc o).cell? ⟨N, 0, none⟩ = some (.slice a m cap) ∧ (W.alloc o).cell? ⟨N, 1, none⟩ = some (.int .i64 E) ∧ (W.alloc o).cell? ⟨N, 2, none⟩ = some (.int .i64 C) ∧ Below wA.heap.size wA (W.alloc o) ∧ N < wA.heap.size := by_below h ((Below.refl _ W).alloc (Nat.le_refl _) _)
theorem by_realloc {o o' : Obj} (h : (W.alloc o).cell? ⟨N, 0, none⟩ = some (.slice a m cap) ∧ (W.alloc o).cell? ⟨N, 1, none⟩ = some (.int .i64 E) ∧ (W.alloc o).cell? ⟨N, 2, none⟩ = some (.int .i64 C) ∧ Below wA.heap.size wA (W.alloc o) ∧ N < wA.heap.size) (hz : wA.heap.size ≤ W.heap.size) :
    (W.alloc o').cell? ⟨N, 0, none⟩ = some (.slice a m cap) ∧ (W.alloc o').cell? ⟨N, 1, none⟩ = some (.int .i64 E) ∧ (W.alloc o').cell? ⟨N, 2, none⟩ = some (.int .i64 C) ∧ Below wA.heap.size wA (W.alloc o') ∧ N < wA.heap.size := by
  have hb : ∀ k, k < W.heap.size → (W.alloc o').heap[k]? = (W.alloc o).heap[k]? := fun k hk => (Below.heap_alloc _ _ _ hk).trans (Below.heap_alloc _ _ _ hk).symm
  have hN := hb N (Nat.lt_of_lt_of_le h.2.2.2.2 hz)
  refine ⟨(World.cell?_of_block hN).trans h.1, (World.cell?_of_block hN).trans h.2.1, (World.cell?_of_block hN).trans h.2.2.1, ⟨h.2.2.2.1.os, h.2.2.2.1.tape, h.2.2.2.1.output, ?_, fun k hk => (hb k (by omega)).trans (h.2.2.2.1.block k hk)⟩, h.2.2.2.2⟩
  have := h.2.2.2.1.size
  simpa using this
theorem by_put {p : Nat} {v0 v1 v2 v3 v4 v5 v6 : Value} (h : W.cell? ⟨N, 0, none⟩ = some (.slice a m cap) ∧ W.cell? ⟨N, 1, none⟩ = some (.int .i64 E) ∧ W.cell? ⟨N, 2, none⟩ = some (.int .i64 C) ∧ Below wA.heap.size wA W ∧ N < wA.heap.size) (hp : wA.heap.size ≤ p) :
    (((((((W.setCell ⟨p, 0, none⟩ v0).setCell ⟨p, 1, none⟩ v1).setCell ⟨p, 2, none⟩ v2).setCell ⟨p, 3, none⟩ v3).setCell ⟨p, 4, none⟩ v4).setCell ⟨p, 5, none⟩ v5).setCell ⟨p, 6, none⟩ v6).cell? ⟨N, 0, none⟩ = some (.slice a m cap) ∧ (((((((W.setCell ⟨p, 0, none⟩ v0).setCell ⟨p, 1, none⟩ v1).setCell ⟨p, 2, none⟩ v2).setCell ⟨p, 3, none⟩ v3).setCell ⟨p, 4, none⟩ v4).setCell ⟨p, 5, none⟩ v5).setCell ⟨p, 6, none⟩ v6).cell? ⟨N, 1, none⟩ = some (.int .i64 E) ∧ (((((((W.setCell ⟨p, 0, none⟩ v0).setCell ⟨p, 1, none⟩ v1).setCell ⟨p, 2, none⟩ v2).setCell ⟨p, 3, none⟩ v3).setCell ⟨p, 4, none⟩ v4).setCell ⟨p, 5, none⟩ v5).setCell ⟨p, 6, none⟩ v6).cell? ⟨N, 2, none⟩ = some (.int .i64 C) ∧ Below wA.heap.size wA (((((((W.setCell ⟨p, 0, none⟩ v0).setCell ⟨p, 1, none⟩ v1).setCell ⟨p, 2, none⟩ v2).setCell ⟨p, 3, none⟩ v3).setCell ⟨p, 4, none⟩ v4).setCell ⟨p, 5, none⟩ v5).setCell ⟨p, 6, none⟩ v6) ∧ N < wA.heap.size :=
  by_kept h (((((((((Below.refl _ W).setCell (by exact hp) _).setCell (by exact hp) _).setCell (by exact hp) _).setCell (by exact hp) _).setCell (by exact hp) _).setCell (by exact hp) _).setCell (by exact hp) _))
end
set_option maxRecDepth 100000 in
set_option maxHeartbeats 1000000 in
theorem refreport_any (a : Option Addr) (g m cap : Nat) (q t n : Nat → Int) (E C ssrc : Int) (w : World) (H : OAt w a g m q t n) (hm : m ≤ 60) (hE : 0 ≤ E ∧ E ≤ 40000000) (hC : 0 ≤ C ∧ C ≤ 1000) :
    Calls Try.prog 23 #[.agg #[.slice a m cap, .int .i64 E, .int .i64 C], .int .u32 ssrc] w (RePost (.tuple #[.agg #[.int .u32 ssrc, .int .i64 (Rep.frac ((Os.st q t n m).exp - E) (m - C)), .int .i32 (Os.st q t n m).lost, .int .u32 ((Os.st q t n m).h % 4294967296), .int .u32 (Rep.jit (Os.st q t n m).s), .int .u32 0, .int .u32 0], .agg #[.slice a m cap, .int .i64 (Os.st q t n m).exp, .int .i64 m]]) w) := by
  have HF : Hid (∀ W, Below w.heap.size w W → Calls Try.prog 51 #[.agg #[.slice a m cap, .int .i64 E, .int .i64 C]] W (RePost (.int .i64 (Rep.frac ((Os.st q t n m).exp - E) (m - C))) W)) := Lib.hid fun W hW => reffrac_any a g m cap q t n E C W (H.below hW) hm hE hC
  have HL : Hid (∀ W, Below w.heap.size w W → Calls Try.prog 52 #[.agg #[.slice a m cap, .int .i64 E, .int .i64 C]] W (RePost (.int .i32 (Os.st q t n m).lost) W)) := Lib.hid fun W hW => reflost_any a g m cap q t n E C W (H.below hW) hm
  have HH : Hid (∀ W, Below w.heap.size w W → Calls Try.prog 53 #[.agg #[.slice a m cap, .int .i64 E, .int .i64 C]] W (RePost (.int .u32 ((Os.st q t n m).h % 4294967296)) W)) := Lib.hid fun W hW => refhi_any a g m cap q t n E C W (H.below hW) hm
  have HJ : Hid (∀ W, Below w.heap.size w W → Calls Try.prog 54 #[.agg #[.slice a m cap, .int .i64 E, .int .i64 C]] W (RePost (.int .u32 (Rep.jit (Os.st q t n m).s)) W)) := Lib.hid fun W hW => refjit_any a g m cap q t n E C W (H.below hW) hm
  have HX : Hid (∀ W, Below w.heap.size w W → Calls Try.prog 55 #[.agg #[.slice a m cap, .int .i64 E, .int .i64 C]] W (RePost (.int .i64 (Os.st q t n m).exp) W)) := Lib.hid fun W hW => refexp_any a g m cap q t n E C W (H.below hW) hm
  clear H hE hC
  generalize Rep.frac ((Os.st q t n m).exp - E) (m - C) = Fr at *
  generalize (Os.st q t n m).lost = Lo at *
  generalize (Os.st q t n m).h % 4294967296 = Hi at *
  generalize Rep.jit (Os.st q t n m).s = Ji at *
  generalize (Os.st q t n m).exp = X at *
  have hS := bx_new w a m cap E C
  go_enter Try.func23, Try.ntmps23
  go_wp2_with fail
  generalize hwA : ((w.alloc (.cells #[.slice a m cap, .int .i64 E, .int .i64 C] 68)).alloc (.cells #[.int .u32 0, .int .i64 0, .int .i32 0, .int .u32 0, .int .u32 0, .int .u32 0, .int .u32 0] 53)).alloc (.cells #[.slice none 0 0, .int .i64 0, .int .i64 0] 68) = wA
  have hsA : wA.heap.size = w.heap.size + 1 + 1 + 1 := by rw [← hwA]; simp
  have hbA : Below w.heap.size w wA := by rw [← hwA]; exact (((Below.refl _ _).alloc (Nat.le_refl _) _).alloc (by simp) _).alloc (by simp; omega) _
  have HBA := Lib.hid hbA
  have hA0 : wA.heap[w.heap.size]? = some (.cells #[.slice a m cap, .int .i64 E, .int .i64 C] 68 (0, 0)) := by
    rw [← hwA, Below.heap_alloc _ _ _ (by simp; omega), Below.heap_alloc _ _ _ (by simp)]; exact heap_new w _
  have hA1 : wA.heap[w.heap.size + 1]? = some (.cells #[.int .u32 0, .int .i64 0, .int .i32 0, .int .u32 0, .int .u32 0, .int .u32 0, .int .u32 0] 53 (0, 0)) := by
    rw [← hwA, Below.heap_alloc _ _ _ (by simp)]; have := heap_new (w.alloc (.cells #[.slice a m cap, .int .i64 E, .int .i64 C] 68)) (.cells #[.int .u32 0, .int .i64 0, .int .i32 0, .int .u32 0, .int .u32 0, .int .u32 0, .int .u32 0] 53); simpa using this
  have hA2 : wA.heap[w.heap.size + 1 + 1]? = some (.cells #[.slice none 0 0, .int .i64 0, .int .i64 0] 68 (0, 0)) := by
    rw [← hwA]; have := heap_new ((w.alloc (.cells #[.slice a m cap, .int .i64 E, .int .i64 C] 68)).alloc (.cells #[.int .u32 0, .int .i64 0, .int .i32 0, .int .u32 0, .int .u32 0, .int .u32 0, .int .u32 0] 53)) (.cells #[.slice none 0 0, .int .i64 0, .int .i64 0] 68); simpa using this
  have hSA : wA.cell? ⟨w.heap.size, 0, none⟩ = some (.slice a m cap) ∧ wA.cell? ⟨w.heap.size, 1, none⟩ = some (.int .i64 E) ∧ wA.cell? ⟨w.heap.size, 2, none⟩ = some (.int .i64 C) ∧ Below wA.heap.size wA wA ∧ w.heap.size < wA.heap.size := by
    refine ⟨?_, ?_, ?_, Below.refl _ _, by omega⟩ <;> (rw [cell_of_row wA _ _ _ _ _ hA0]; rfl)
  clear hwA hS
  have HA1 := Lib.hid hA1; have HA2 := Lib.hid hA2; have HA0 := Lib.hid hA0
  have HT : Hid (∀ W, Below wA.heap.size wA W → Below w.heap.size w W) := Lib.hid fun W hW => hbA.trans (hW.mono (by omega))
  clear hA0 hA1 hA2 hbA
  have HSA := Lib.hid hsA; clear hsA
  have hz0 : wA.heap.size ≤ wA.drew.heap.size := Nat.le_refl _
  have hz1 : wA.heap.size ≤ wA.heap.size := Nat.le_refl _
  go_region_held3 (fun W => W.cell? ⟨w.heap.size, 0, none⟩ = some (.slice a m cap) ∧ W.cell? ⟨w.heap.size, 1, none⟩ = some (.int .i64 E) ∧ W.cell? ⟨w.heap.size, 2, none⟩ = some (.int .i64 C) ∧ Below wA.heap.size wA W ∧ w.heap.size < wA.heap.size)
    (first | with_reducible assumption | with_reducible exact by_drew (by with_reducible assumption) | with_reducible exact by_alloc (by with_reducible assumption) | with_reducible exact by_drew (by_alloc (by with_reducible assumption)) | with_reducible exact by_below (by with_reducible assumption) (by with_reducible assumption) | with_reducible exact by_put (by with_reducible assumption) (by with_reducible assumption) | with_reducible exact by_realloc (by with_reducible assumption) (by with_reducible assumption))
    (first
      | (go_at_call 51; refine (HF.out _ (HT.out _ (by_b (by assumption)))).mono ?_; rintro e w2 ⟨rfl, hb2⟩; have hz2 : wA.heap.size ≤ w2.heap.size := Nat.le_trans (by_b (by assumption)).size hb2.size; (first | (have hp := row_firstd hb2; obtain ⟨z0, z1, z2, z3, z4, z5, z6, y0, y1, y2, y3, y4, y5, y6⟩ := cells7 hp) | (have hp := row_first hb2; obtain ⟨z0, z1, z2, z3, z4, z5, z6, y0, y1, y2, y3, y4, y5, y6⟩ := cells7 hp) | (have hp := row_next hp hb2; obtain ⟨z0, z1, z2, z3, z4, z5, z6, y0, y1, y2, y3, y4, y5, y6⟩ := cells7 hp) | skip))
      | (go_at_call 52; refine (HL.out _ (HT.out _ (by_b (by assumption)))).mono ?_; rintro e w3 ⟨rfl, hb3⟩; have hz3 : wA.heap.size ≤ w3.heap.size := Nat.le_trans (by_b (by assumption)).size hb3.size; (first | (have hp := row_firstd hb3; obtain ⟨z0, z1, z2, z3, z4, z5, z6, y0, y1, y2, y3, y4, y5, y6⟩ := cells7 hp) | (have hp := row_first hb3; obtain ⟨z0, z1, z2, z3, z4, z5, z6, y0, y1, y2, y3, y4, y5, y6⟩ := cells7 hp) | (have hp := row_next hp hb3; obtain ⟨z0, z1, z2, z3, z4, z5, z6, y0, y1, y2, y3, y4, y5, y6⟩ := cells7 hp) | skip))
      | (go_at_call 53; refine (HH.out _ (HT.out _ (by_b (by assumption)))).mono ?_; rintro e w4 ⟨rfl, hb4⟩; have hz4 : wA.heap.size ≤ w4.heap.size := Nat.le_trans (by_b (by assumption)).size hb4.size; (first | (have hp := row_firstd hb4; obtain ⟨z0, z1, z2, z3, z4, z5, z6, y0, y1, y2, y3, y4, y5, y6⟩ := cells7 hp) | (have hp := row_first hb4; obtain ⟨z0, z1, z2, z3, z4, z5, z6, y0, y1, y2, y3, y4, y5, y6⟩ := cells7 hp) | (have hp := row_next hp hb4; obtain ⟨z0, z1, z2, z3, z4, z5, z6, y0, y1, y2, y3, y4, y5, y6⟩ := cells7 hp) | skip))
      | (go_at_call 54; refine (HJ.out _ (HT.out _ (by_b (by assumption)))).mono ?_; rintro e w5 ⟨rfl, hb5⟩; have hz5 : wA.heap.size ≤ w5.heap.size := Nat.le_trans (by_b (by assumption)).size hb5.size; (first | (have hp := row_firstd hb5; obtain ⟨z0, z1, z2, z3, z4, z5, z6, y0, y1, y2, y3, y4, y5, y6⟩ := cells7 hp) | (have hp := row_first hb5; obtain ⟨z0, z1, z2, z3, z4, z5, z6, y0, y1, y2, y3, y4, y5, y6⟩ := cells7 hp) | (have hp := row_next hp hb5; obtain ⟨z0, z1, z2, z3, z4, z5, z6, y0, y1, y2, y3, y4, y5, y6⟩ := cells7 hp) | skip)))
  all_goals (
    first
      | (have hr := heap_new w5 (.cells #[.int .u32 ssrc, .int .i64 Fr, .int .i32 Lo, .int .u32 Hi, .int .u32 Ji, .int .u32 0, .int .u32 0] 53); have hB : Below wA.heap.size wA (w5.alloc (.cells #[.int .u32 ssrc, .int .i64 Fr, .int .i32 Lo, .int .u32 Hi, .int .u32 Ji, .int .u32 0, .int .u32 0] 53)) := by_b (by with_reducible assumption); generalize w5.alloc (.cells #[.int .u32 ssrc, .int .i64 Fr, .int .i32 Lo, .int .u32 Hi, .int .u32 Ji, .int .u32 0, .int .u32 0] 53) = W1 at hr hB ⊢; have hpz := hz5; generalize w5.heap.size = p at hr hpz ⊢)
      | (have hr := row7_put (.int .u32 ssrc) (.int .i64 Fr) (.int .i32 Lo) (.int .u32 Hi) (.int .u32 Ji) (.int .u32 0) (.int .u32 0) (W := w5) (p := w4.heap.size) (by with_reducible assumption); have hB : Below wA.heap.size wA (((((((w5.setCell ⟨w4.heap.size, 0, none⟩ (.int .u32 ssrc)).setCell ⟨w4.heap.size, 1, none⟩ (.int .i64 Fr)).setCell ⟨w4.heap.size, 2, none⟩ (.int .i32 Lo)).setCell ⟨w4.heap.size, 3, none⟩ (.int .u32 Hi)).setCell ⟨w4.heap.size, 4, none⟩ (.int .u32 Ji)).setCell ⟨w4.heap.size, 5, none⟩ (.int .u32 0)).setCell ⟨w4.heap.size, 6, none⟩ (.int .u32 0)) := by_b (by with_reducible assumption); generalize (((((((w5.setCell ⟨w4.heap.size, 0, none⟩ (.int .u32 ssrc)).setCell ⟨w4.heap.size, 1, none⟩ (.int .i64 Fr)).setCell ⟨w4.heap.size, 2, none⟩ (.int .i32 Lo)).setCell ⟨w4.heap.size, 3, none⟩ (.int .u32 Hi)).setCell ⟨w4.heap.size, 4, none⟩ (.int .u32 Ji)).setCell ⟨w4.heap.size, 5, none⟩ (.int .u32 0)).setCell ⟨w4.heap.size, 6, none⟩ (.int .u32 0)) = W1 at hr hB ⊢; have hpz := hz4; generalize w4.heap.size = p at hr hpz ⊢)
      | (have hr := row7_put (.int .u32 ssrc) (.int .i64 Fr) (.int .i32 Lo) (.int .u32 Hi) (.int .u32 Ji) (.int .u32 0) (.int .u32 0) (W := w5) (p := w3.heap.size) (by with_reducible assumption); have hB : Below wA.heap.size wA (((((((w5.setCell ⟨w3.heap.size, 0, none⟩ (.int .u32 ssrc)).setCell ⟨w3.heap.size, 1, none⟩ (.int .i64 Fr)).setCell ⟨w3.heap.size, 2, none⟩ (.int .i32 Lo)).setCell ⟨w3.heap.size, 3, none⟩ (.int .u32 Hi)).setCell ⟨w3.heap.size, 4, none⟩ (.int .u32 Ji)).setCell ⟨w3.heap.size, 5, none⟩ (.int .u32 0)).setCell ⟨w3.heap.size, 6, none⟩ (.int .u32 0)) := by_b (by with_reducible assumption); generalize (((((((w5.setCell ⟨w3.heap.size, 0, none⟩ (.int .u32 ssrc)).setCell ⟨w3.heap.size, 1, none⟩ (.int .i64 Fr)).setCell ⟨w3.heap.size, 2, none⟩ (.int .i32 Lo)).setCell ⟨w3.heap.size, 3, none⟩ (.int .u32 Hi)).setCell ⟨w3.heap.size, 4, none⟩ (.int .u32 Ji)).setCell ⟨w3.heap.size, 5, none⟩ (.int .u32 0)).setCell ⟨w3.heap.size, 6, none⟩ (.int .u32 0)) = W1 at hr hB ⊢; have hpz := hz3; generalize w3.heap.size = p at hr hpz ⊢)
      | (have hr := row7_put (.int .u32 ssrc) (.int .i64 Fr) (.int .i32 Lo) (.int .u32 Hi) (.int .u32 Ji) (.int .u32 0) (.int .u32 0) (W := w5) (p := w2.heap.size) (by with_reducible assumption); have hB : Below wA.heap.size wA (((((((w5.setCell ⟨w2.heap.size, 0, none⟩ (.int .u32 ssrc)).setCell ⟨w2.heap.size, 1, none⟩ (.int .i64 Fr)).setCell ⟨w2.heap.size, 2, none⟩ (.int .i32 Lo)).setCell ⟨w2.heap.size, 3, none⟩ (.int .u32 Hi)).setCell ⟨w2.heap.size, 4, none⟩ (.int .u32 Ji)).setCell ⟨w2.heap.size, 5, none⟩ (.int .u32 0)).setCell ⟨w2.heap.size, 6, none⟩ (.int .u32 0)) := by_b (by with_reducible assumption); generalize (((((((w5.setCell ⟨w2.heap.size, 0, none⟩ (.int .u32 ssrc)).setCell ⟨w2.heap.size, 1, none⟩ (.int .i64 Fr)).setCell ⟨w2.heap.size, 2, none⟩ (.int .i32 Lo)).setCell ⟨w2.heap.size, 3, none⟩ (.int .u32 Hi)).setCell ⟨w2.heap.size, 4, none⟩ (.int .u32 Ji)).setCell ⟨w2.heap.size, 5, none⟩ (.int .u32 0)).setCell ⟨w2.heap.size, 6, none⟩ (.int .u32 0)) = W1 at hr hB ⊢; have hpz := hz2; generalize w2.heap.size = p at hr hpz ⊢)
      | (have hr := row7_put (.int .u32 ssrc) (.int .i64 Fr) (.int .i32 Lo) (.int .u32 Hi) (.int .u32 Ji) (.int .u32 0) (.int .u32 0) (W := w5) (p := wA.heap.size) (by with_reducible assumption); have hB : Below wA.heap.size wA (((((((w5.setCell ⟨wA.heap.size, 0, none⟩ (.int .u32 ssrc)).setCell ⟨wA.heap.size, 1, none⟩ (.int .i64 Fr)).setCell ⟨wA.heap.size, 2, none⟩ (.int .i32 Lo)).setCell ⟨wA.heap.size, 3, none⟩ (.int .u32 Hi)).setCell ⟨wA.heap.size, 4, none⟩ (.int .u32 Ji)).setCell ⟨wA.heap.size, 5, none⟩ (.int .u32 0)).setCell ⟨wA.heap.size, 6, none⟩ (.int .u32 0)) := by_b (by with_reducible assumption); generalize (((((((w5.setCell ⟨wA.heap.size, 0, none⟩ (.int .u32 ssrc)).setCell ⟨wA.heap.size, 1, none⟩ (.int .i64 Fr)).setCell ⟨wA.heap.size, 2, none⟩ (.int .i32 Lo)).setCell ⟨wA.heap.size, 3, none⟩ (.int .u32 Hi)).setCell ⟨wA.heap.size, 4, none⟩ (.int .u32 Ji)).setCell ⟨wA.heap.size, 5, none⟩ (.int .u32 0)).setCell ⟨wA.heap.size, 6, none⟩ (.int .u32 0)) = W1 at hr hB ⊢; obtain ⟨p, hpe⟩ : ∃ p, wA.heap.size = p := ⟨_, rfl⟩; have hpz : wA.heap.size ≤ p := Nat.le_of_eq hpe; rw [hpe] at hr ⊢; have HPE := Lib.hid hpe; clear hpe)
    have HR := Lib.hid hr; have HB := Lib.hid hB; have HP := Lib.hid hpz
    clear hr hB hpz HF HL HH HJ
    have R0 : W1.heap[w.heap.size]? = some (.cells #[.slice a m cap, .int .i64 E, .int .i64 C] 68 (0, 0)) := (HB.out.block _ (by have := HSA.out; omega)).trans HA0.out
    have k0 := cell_of_row W1 _ 0 _ _ _ R0; have k1 := cell_of_row W1 _ 1 _ _ _ R0; have k2 := cell_of_row W1 _ 2 _ _ _ R0
    simp only [List.getElem?_toArray, List.getElem?_cons_zero, List.getElem?_cons_succ] at k0 k1 k2
    go_wp2_with fail
    refine (HX.out _ (HT.out _ HB.out)).mono ?_
    rintro e w6 ⟨rfl, hb6⟩
    have B6 := Lib.hid (HB.out.trans (hb6.mono HB.out.size))
    have hp6 : Hid (w6.heap[p]? = some (.cells #[.int .u32 ssrc, .int .i64 Fr, .int .i32 Lo, .int .u32 Hi, .int .u32 Ji, .int .u32 0, .int .u32 0] 53 (0, 0))) := Lib.hid ((hb6.block _ (Array.getElem?_eq_some_iff.1 HR.out).1).trans HR.out)
    have Q0 : w6.heap[w.heap.size]? = some (.cells #[.slice a m cap, .int .i64 E, .int .i64 C] 68 (0, 0)) := (hb6.block _ (Array.getElem?_eq_some_iff.1 R0).1).trans R0
    have m0 := cell_of_row w6 _ 0 _ _ _ Q0; have m1 := cell_of_row w6 _ 1 _ _ _ Q0; have m2 := cell_of_row w6 _ 2 _ _ _ Q0
    simp only [List.getElem?_toArray, List.getElem?_cons_zero, List.getElem?_cons_succ] at m0 m1 m2
    have f1 := frozen_of_row w6 _ 1 _ _ Q0; have f2 := frozen_of_row w6 _ 2 _ _ Q0
    have HQ0 := Lib.hid Q0
    clear k0 k1 k2 R0 hb6 Q0 HX
    go_wp2_with fail
    generalize hw7 : (w6.setCell ⟨w.heap.size, 1, none⟩ (.int .i64 X)).setCell ⟨w.heap.size, 2, none⟩ (.int .i64 m) = w7
    have Q7 : w7.heap[w.heap.size]? = some (.cells #[.slice a m cap, .int .i64 X, .int .i64 m] 68 (0, 0)) := by
      rw [← hw7]; exact heap_setCell_same _ _ 2 _ _ _ (heap_setCell_same _ _ 1 _ _ _ HQ0.out)
    have hoth : ∀ k, k ≠ w.heap.size → w7.heap[k]? = w6.heap[k]? := fun k hk => by
      rw [← hw7, Below.heap_setCell _ _ _ k hk, Below.heap_setCell _ _ _ k hk]
    have P7 := (hoth p (by have := HP.out; have := HSA.out; omega)).trans hp6.out
    have A7 := (hoth (w.heap.size + 1) (by omega)).trans ((B6.out.block _ (by have := HSA.out; omega)).trans HA1.out)
    have Z7 := (hoth (w.heap.size + 1 + 1) (by omega)).trans ((B6.out.block _ (by have := HSA.out; omega)).trans HA2.out)
    have B7 : Hid (Below w.heap.size w w7) := Lib.hid (by rw [← hw7]; exact ((HT.out _ B6.out).setCell (Nat.le_refl _) _).setCell (Nat.le_refl _) _)
    obtain ⟨e0, e1, e2, e3, e4, e5, e6, _⟩ := cells7 P7
    obtain ⟨o0, o1, o2, o3, o4, o5, o6, g0, g1, g2, g3, g4, g5, g6⟩ := cells7 A7
    have n0 := cell_of_row w7 _ 0 _ _ _ Q7; have n1 := cell_of_row w7 _ 1 _ _ _ Q7; have n2 := cell_of_row w7 _ 2 _ _ _ Q7
    have i0 := cell_of_row w7 _ 0 _ _ _ Z7; have i1 := cell_of_row w7 _ 1 _ _ _ Z7; have i2 := cell_of_row w7 _ 2 _ _ _ Z7
    simp only [List.getElem?_toArray, List.getElem?_cons_zero, List.getElem?_cons_succ] at n0 n1 n2 i0 i1 i2
    have l0 := frozen_of_row w7 _ 0 _ _ Z7; have l1 := frozen_of_row w7 _ 1 _ _ Z7; have l2 := frozen_of_row w7 _ 2 _ _ Z7
    clear hw7 hoth P7 A7 Z7 Q7 m0 m1 m2 f1 f2 HQ0 hp6 B6 HR HB
    go_region_law (fail)
    all_goals go_wp2_with fail
    all_goals refine bodyPost_ret (v := .tuple #[.agg #[.int .u32 ssrc, .int .i64 Fr, .int .i32 Lo, .int .u32 Hi, .int .u32 Ji, .int .u32 0, .int .u32 0], .agg #[.slice a m cap, .int .i64 X, .int .i64 m]]) (by simp [results, Try.results23, go_sem, o0, o1, o2, o3, o4, o5, o6, i0, i1, i2]) rfl ⟨rfl, ?_⟩
    all_goals exact ((((((((((B7.out.setCell (Nat.le_succ _) _).setCell (Nat.le_succ _) _).setCell (Nat.le_succ _) _).setCell (Nat.le_succ _) _).setCell (Nat.le_succ _) _).setCell (Nat.le_succ _) _).setCell (Nat.le_succ _) _).setCell (Nat.le_trans (Nat.le_succ _) (Nat.le_succ _)) _).setCell (Nat.le_trans (Nat.le_succ _) (Nat.le_succ _)) _).setCell (Nat.le_trans (Nat.le_succ _) (Nat.le_succ _)) _).drew)
end Go.Proofs.Ytpannhbmelcpfab
