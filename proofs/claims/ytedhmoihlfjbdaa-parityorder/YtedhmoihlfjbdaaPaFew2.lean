/-
  ParityParts: what its last line reads.
-/
import Derived.Test.YtedhmoihlfjbdaaPaPart0
import Derived.Test.YtedhmoihlfjbdaaPaAl0
import Derived.Test.YtedhmoihlfjbdaaIbAdd
import Derived.Test.YtedhmoihlfjbdaaPaRows
namespace Go.Proofs.Ytedhmoihlfjbdaa
open Go.RowKit Go.Shelf
set_option linter.unusedVariables false
theorem mask1023p (n : Int) : 0 ≤ bits .and .i64 n 1023 ∧ bits .and .i64 n 1023 < 1024 := by
  have e1 : (BitVec.ofInt 64 n &&& BitVec.ofInt 64 1023).toNat = (BitVec.ofInt 64 n).toNat % 1024 := by
    rw [BitVec.toNat_and]; exact Nat.and_two_pow_sub_one_eq_mod _ 10
  have : bits .and .i64 n 1023 = IntKind.i64.wrap ((BitVec.ofInt 64 n &&& BitVec.ofInt 64 1023).toNat : Nat) := rfl
  rw [this, e1, IntKind.wrap_i64]; omega
/-- The packets, and the box of a repair of theirs. -/
structure PT (w : World) (a : Option Addr) (len : Nat) (ls : List (List Int)) (R : Nat) (q : Nat → Int) (BB : Int) (X : Nat) (ab : Option Addr) (nb cb : Nat) (l : List Int) (W : World) : Prop where
  ps : PksAt W a len ls
  rb : W.heap[R]? = some (.cells #[.int .u8 (q 0), .int .u8 (q 1), .int .u8 (q 2), .int .u8 (q 3), .int .u8 (q 4), .int .u8 (q 5), .int .u8 (q 6), .int .u8 (q 7), .int .u16 BB, .int .u64 (Mk.H X), .int .u64 (Mk.L X), .slice ab nb cb] 32 (0, 0))
  bd : BAt W ab nb l
  low : Below w.heap.size w W
theorem PT.below {w : World} {a : Option Addr} {len : Nat} {ls : List (List Int)} {R : Nat} {q : Nat → Int} {BB : Int} {X : Nat} {ab : Option Addr} {nb cb : Nat} {l : List Int} {W W' : World} (h : PT w a len ls R q BB X ab nb cb l W) (hb : Below W.heap.size W W') : PT w a len ls R q BB X ab nb cb l W' :=
  ⟨h.ps.below hb, (hb.block _ (Array.getElem?_eq_some_iff.1 h.rb).1).trans h.rb, h.bd.below hb, h.low.trans (hb.mono h.low.size)⟩
/-- The three repairs, and a row of two. -/
structure Q2 (w : World) (pb po len : Nat) (ls : List (List Int)) (R : Nat) (q : Nat → Int) (BB : Int) (X : Nat) (ab : Option Addr) (nb cb : Nat) (l : List Int) (RA : Nat) (qa : Nat → Int) (Ba : Int) (Xa : Nat) (aa : Option Addr) (na ca : Nat) (la : List Int) (RB : Nat) (qb : Nat → Int) (Bb : Int) (Xb : Nat) (ab2 : Option Addr) (nb2 cb2 : Nat) (lb : List Int) (base g sc : Nat) (h : Nat → Nat → Int) (B : Nat → Int) (Y : Nat → Nat) (A : Nat → Option Addr) (bs : Nat → List Int) (C : Nat → Nat) (W : World) : Prop where
  t : PT w (some ⟨pb, po, none⟩) len ls R q BB X ab nb cb l W
  a : W.heap[RA]? = some (.cells #[.int .u8 (qa 0), .int .u8 (qa 1), .int .u8 (qa 2), .int .u8 (qa 3), .int .u8 (qa 4), .int .u8 (qa 5), .int .u8 (qa 6), .int .u8 (qa 7), .int .u16 Ba, .int .u64 (Mk.H Xa), .int .u64 (Mk.L Xa), .slice aa na ca] 32 (0, 0))
  ba : BAt W aa na la
  b : W.heap[RB]? = some (.cells #[.int .u8 (qb 0), .int .u8 (qb 1), .int .u8 (qb 2), .int .u8 (qb 3), .int .u8 (qb 4), .int .u8 (qb 5), .int .u8 (qb 6), .int .u8 (qb 7), .int .u16 Bb, .int .u64 (Mk.H Xb), .int .u64 (Mk.L Xb), .slice ab2 nb2 cb2] 32 (0, 0))
  bb : BAt W ab2 nb2 lb
  rs : WRow W base (some ⟨g, 0, none⟩) 2 sc h B Y A bs C
section
variable {w : World} {pb po len : Nat} {ls : List (List Int)} {R : Nat} {q : Nat → Int} {BB : Int} {X : Nat} {ab : Option Addr} {nb cb : Nat} {l : List Int} {RA : Nat} {qa : Nat → Int} {Ba : Int} {Xa : Nat} {aa : Option Addr} {na ca : Nat} {la : List Int} {RB : Nat} {qb : Nat → Int} {Bb : Int} {Xb : Nat} {ab2 : Option Addr} {nb2 cb2 : Nat} {lb : List Int} {base g sc : Nat} {h : Nat → Nat → Int} {B : Nat → Int} {Y : Nat → Nat} {A : Nat → Option Addr} {bs : Nat → List Int} {C : Nat → Nat} {W W' : World}
theorem Q2.below (hq : Q2 w pb po len ls R q BB X ab nb cb l RA qa Ba Xa aa na ca la RB qb Bb Xb ab2 nb2 cb2 lb base g sc h B Y A bs C W) (hb : Below W.heap.size W W') : Q2 w pb po len ls R q BB X ab nb cb l RA qa Ba Xa aa na ca la RB qb Bb Xb ab2 nb2 cb2 lb base g sc h B Y A bs C W' :=
  ⟨hq.t.below hb, (hb.block _ (Array.getElem?_eq_some_iff.1 hq.a).1).trans hq.a, hq.ba.below hb, (hb.block _ (Array.getElem?_eq_some_iff.1 hq.b).1).trans hq.b, hq.bb.below hb, hq.rs.below hb⟩
theorem WRow.cell {i k j c : Nat} {b0 : Nat} (hr : WRow W b0 (some ⟨g, 0, none⟩) i c h B Y A bs C) (hk : k < i) (hj : j < 12) : W.cell? ⟨g, k * 12 + j, none⟩ = ([.int .u8 (h k 0), .int .u8 (h k 1), .int .u8 (h k 2), .int .u8 (h k 3), .int .u8 (h k 4), .int .u8 (h k 5), .int .u8 (h k 6), .int .u8 (h k 7), .int .u16 (B k), .int .u64 (Mk.H (Y k)), .int .u64 (Mk.L (Y k)), .slice (A k) (bs k).length (C k)] : List Value)[j]? := by
  rcases hr.row.2 with ⟨hv, rfl⟩ | ⟨g', cap, cur, hv, hb, hg, h1, h2, h3, h4⟩
  · omega
  · simp only [Value.slice.injEq, true_and, Option.some.injEq, Addr.mk.injEq, and_true] at hv
    obtain ⟨rfl, rfl⟩ := hv
    rw [cell_of_row W g _ _ _ _ hg, ← rcells_at h B Y A bs C i k hk j hj, ← h4, List.getElem?_take, if_pos (by have := rcells_len h B Y A bs C i; omega), Array.getElem?_toList]
theorem Q2.all (hq : Q2 w pb po len ls R q BB X ab nb cb l RA qa Ba Xa aa na ca la RB qb Bb Xb ab2 nb2 cb2 lb base g sc h B Y A bs C W) : W.cell? ⟨R, 0, none⟩ = some (.int .u8 (q 0)) ∧ W.cell? ⟨R, 1, none⟩ = some (.int .u8 (q 1)) ∧ W.cell? ⟨R, 2, none⟩ = some (.int .u8 (q 2)) ∧ W.cell? ⟨R, 3, none⟩ = some (.int .u8 (q 3)) ∧ W.cell? ⟨R, 4, none⟩ = some (.int .u8 (q 4)) ∧ W.cell? ⟨R, 5, none⟩ = some (.int .u8 (q 5)) ∧ W.cell? ⟨R, 6, none⟩ = some (.int .u8 (q 6)) ∧ W.cell? ⟨R, 7, none⟩ = some (.int .u8 (q 7)) ∧ W.cell? ⟨R, 8, none⟩ = some (.int .u16 BB) ∧ W.cell? ⟨R, 9, none⟩ = some (.int .u64 (Mk.H X)) ∧ W.cell? ⟨R, 10, none⟩ = some (.int .u64 (Mk.L X)) ∧ W.cell? ⟨R, 11, none⟩ = some (.slice ab nb cb) ∧ W.cell? ⟨RA, 0, none⟩ = some (.int .u8 (qa 0)) ∧ W.cell? ⟨RA, 1, none⟩ = some (.int .u8 (qa 1)) ∧ W.cell? ⟨RA, 2, none⟩ = some (.int .u8 (qa 2)) ∧ W.cell? ⟨RA, 3, none⟩ = some (.int .u8 (qa 3)) ∧ W.cell? ⟨RA, 4, none⟩ = some (.int .u8 (qa 4)) ∧ W.cell? ⟨RA, 5, none⟩ = some (.int .u8 (qa 5)) ∧ W.cell? ⟨RA, 6, none⟩ = some (.int .u8 (qa 6)) ∧ W.cell? ⟨RA, 7, none⟩ = some (.int .u8 (qa 7)) ∧ W.cell? ⟨RA, 8, none⟩ = some (.int .u16 Ba) ∧ W.cell? ⟨RA, 9, none⟩ = some (.int .u64 (Mk.H Xa)) ∧ W.cell? ⟨RA, 10, none⟩ = some (.int .u64 (Mk.L Xa)) ∧ W.cell? ⟨RA, 11, none⟩ = some (.slice aa na ca) ∧ W.cell? ⟨RB, 0, none⟩ = some (.int .u8 (qb 0)) ∧ W.cell? ⟨RB, 1, none⟩ = some (.int .u8 (qb 1)) ∧ W.cell? ⟨RB, 2, none⟩ = some (.int .u8 (qb 2)) ∧ W.cell? ⟨RB, 3, none⟩ = some (.int .u8 (qb 3)) ∧ W.cell? ⟨RB, 4, none⟩ = some (.int .u8 (qb 4)) ∧ W.cell? ⟨RB, 5, none⟩ = some (.int .u8 (qb 5)) ∧ W.cell? ⟨RB, 6, none⟩ = some (.int .u8 (qb 6)) ∧ W.cell? ⟨RB, 7, none⟩ = some (.int .u8 (qb 7)) ∧ W.cell? ⟨RB, 8, none⟩ = some (.int .u16 Bb) ∧ W.cell? ⟨RB, 9, none⟩ = some (.int .u64 (Mk.H Xb)) ∧ W.cell? ⟨RB, 10, none⟩ = some (.int .u64 (Mk.L Xb)) ∧ W.cell? ⟨RB, 11, none⟩ = some (.slice ab2 nb2 cb2) ∧ W.cell? ⟨g, 0, none⟩ = some (.int .u8 (h 0 0)) ∧ W.cell? ⟨g, 1, none⟩ = some (.int .u8 (h 0 1)) ∧ W.cell? ⟨g, 2, none⟩ = some (.int .u8 (h 0 2)) ∧ W.cell? ⟨g, 3, none⟩ = some (.int .u8 (h 0 3)) ∧ W.cell? ⟨g, 4, none⟩ = some (.int .u8 (h 0 4)) ∧ W.cell? ⟨g, 5, none⟩ = some (.int .u8 (h 0 5)) ∧ W.cell? ⟨g, 6, none⟩ = some (.int .u8 (h 0 6)) ∧ W.cell? ⟨g, 7, none⟩ = some (.int .u8 (h 0 7)) ∧ W.cell? ⟨g, 8, none⟩ = some (.int .u16 (B 0)) ∧ W.cell? ⟨g, 9, none⟩ = some (.int .u64 (Mk.H (Y 0))) ∧ W.cell? ⟨g, 10, none⟩ = some (.int .u64 (Mk.L (Y 0))) ∧ W.cell? ⟨g, 11, none⟩ = some (.slice (A 0) (bs 0).length (C 0)) ∧ W.cell? ⟨g, 12, none⟩ = some (.int .u8 (h 1 0)) ∧ W.cell? ⟨g, 13, none⟩ = some (.int .u8 (h 1 1)) ∧ W.cell? ⟨g, 14, none⟩ = some (.int .u8 (h 1 2)) ∧ W.cell? ⟨g, 15, none⟩ = some (.int .u8 (h 1 3)) ∧ W.cell? ⟨g, 16, none⟩ = some (.int .u8 (h 1 4)) ∧ W.cell? ⟨g, 17, none⟩ = some (.int .u8 (h 1 5)) ∧ W.cell? ⟨g, 18, none⟩ = some (.int .u8 (h 1 6)) ∧ W.cell? ⟨g, 19, none⟩ = some (.int .u8 (h 1 7)) ∧ W.cell? ⟨g, 20, none⟩ = some (.int .u16 (B 1)) ∧ W.cell? ⟨g, 21, none⟩ = some (.int .u64 (Mk.H (Y 1))) ∧ W.cell? ⟨g, 22, none⟩ = some (.int .u64 (Mk.L (Y 1))) ∧ W.cell? ⟨g, 23, none⟩ = some (.slice (A 1) (bs 1).length (C 1)) ∧ Q2 w pb po len ls R q BB X ab nb cb l RA qa Ba Xa aa na ca la RB qb Bb Xb ab2 nb2 cb2 lb base g sc h B Y A bs C W := by
  refine ⟨?_, ?_, ?_, ?_, ?_, ?_, ?_, ?_, ?_, ?_, ?_, ?_, ?_, ?_, ?_, ?_, ?_, ?_, ?_, ?_, ?_, ?_, ?_, ?_, ?_, ?_, ?_, ?_, ?_, ?_, ?_, ?_, ?_, ?_, ?_, ?_, ?_, ?_, ?_, ?_, ?_, ?_, ?_, ?_, ?_, ?_, ?_, ?_, ?_, ?_, ?_, ?_, ?_, ?_, ?_, ?_, ?_, ?_, ?_, ?_, hq⟩
  iterate 12 (rw [cell_of_row W _ _ _ _ _ hq.t.rb]; rfl)
  iterate 12 (rw [cell_of_row W _ _ _ _ _ hq.a]; rfl)
  iterate 12 (rw [cell_of_row W _ _ _ _ _ hq.b]; rfl)
  · exact hq.rs.cell (k := 0) (j := 0) (by omega) (by omega)
  · exact hq.rs.cell (k := 0) (j := 1) (by omega) (by omega)
  · exact hq.rs.cell (k := 0) (j := 2) (by omega) (by omega)
  · exact hq.rs.cell (k := 0) (j := 3) (by omega) (by omega)
  · exact hq.rs.cell (k := 0) (j := 4) (by omega) (by omega)
  · exact hq.rs.cell (k := 0) (j := 5) (by omega) (by omega)
  · exact hq.rs.cell (k := 0) (j := 6) (by omega) (by omega)
  · exact hq.rs.cell (k := 0) (j := 7) (by omega) (by omega)
  · exact hq.rs.cell (k := 0) (j := 8) (by omega) (by omega)
  · exact hq.rs.cell (k := 0) (j := 9) (by omega) (by omega)
  · exact hq.rs.cell (k := 0) (j := 10) (by omega) (by omega)
  · exact hq.rs.cell (k := 0) (j := 11) (by omega) (by omega)
  · exact hq.rs.cell (k := 1) (j := 0) (by omega) (by omega)
  · exact hq.rs.cell (k := 1) (j := 1) (by omega) (by omega)
  · exact hq.rs.cell (k := 1) (j := 2) (by omega) (by omega)
  · exact hq.rs.cell (k := 1) (j := 3) (by omega) (by omega)
  · exact hq.rs.cell (k := 1) (j := 4) (by omega) (by omega)
  · exact hq.rs.cell (k := 1) (j := 5) (by omega) (by omega)
  · exact hq.rs.cell (k := 1) (j := 6) (by omega) (by omega)
  · exact hq.rs.cell (k := 1) (j := 7) (by omega) (by omega)
  · exact hq.rs.cell (k := 1) (j := 8) (by omega) (by omega)
  · exact hq.rs.cell (k := 1) (j := 9) (by omega) (by omega)
  · exact hq.rs.cell (k := 1) (j := 10) (by omega) (by omega)
  · exact hq.rs.cell (k := 1) (j := 11) (by omega) (by omega)
theorem Q2.of (hq : W.cell? ⟨R, 0, none⟩ = some (.int .u8 (q 0)) ∧ W.cell? ⟨R, 1, none⟩ = some (.int .u8 (q 1)) ∧ W.cell? ⟨R, 2, none⟩ = some (.int .u8 (q 2)) ∧ W.cell? ⟨R, 3, none⟩ = some (.int .u8 (q 3)) ∧ W.cell? ⟨R, 4, none⟩ = some (.int .u8 (q 4)) ∧ W.cell? ⟨R, 5, none⟩ = some (.int .u8 (q 5)) ∧ W.cell? ⟨R, 6, none⟩ = some (.int .u8 (q 6)) ∧ W.cell? ⟨R, 7, none⟩ = some (.int .u8 (q 7)) ∧ W.cell? ⟨R, 8, none⟩ = some (.int .u16 BB) ∧ W.cell? ⟨R, 9, none⟩ = some (.int .u64 (Mk.H X)) ∧ W.cell? ⟨R, 10, none⟩ = some (.int .u64 (Mk.L X)) ∧ W.cell? ⟨R, 11, none⟩ = some (.slice ab nb cb) ∧ W.cell? ⟨RA, 0, none⟩ = some (.int .u8 (qa 0)) ∧ W.cell? ⟨RA, 1, none⟩ = some (.int .u8 (qa 1)) ∧ W.cell? ⟨RA, 2, none⟩ = some (.int .u8 (qa 2)) ∧ W.cell? ⟨RA, 3, none⟩ = some (.int .u8 (qa 3)) ∧ W.cell? ⟨RA, 4, none⟩ = some (.int .u8 (qa 4)) ∧ W.cell? ⟨RA, 5, none⟩ = some (.int .u8 (qa 5)) ∧ W.cell? ⟨RA, 6, none⟩ = some (.int .u8 (qa 6)) ∧ W.cell? ⟨RA, 7, none⟩ = some (.int .u8 (qa 7)) ∧ W.cell? ⟨RA, 8, none⟩ = some (.int .u16 Ba) ∧ W.cell? ⟨RA, 9, none⟩ = some (.int .u64 (Mk.H Xa)) ∧ W.cell? ⟨RA, 10, none⟩ = some (.int .u64 (Mk.L Xa)) ∧ W.cell? ⟨RA, 11, none⟩ = some (.slice aa na ca) ∧ W.cell? ⟨RB, 0, none⟩ = some (.int .u8 (qb 0)) ∧ W.cell? ⟨RB, 1, none⟩ = some (.int .u8 (qb 1)) ∧ W.cell? ⟨RB, 2, none⟩ = some (.int .u8 (qb 2)) ∧ W.cell? ⟨RB, 3, none⟩ = some (.int .u8 (qb 3)) ∧ W.cell? ⟨RB, 4, none⟩ = some (.int .u8 (qb 4)) ∧ W.cell? ⟨RB, 5, none⟩ = some (.int .u8 (qb 5)) ∧ W.cell? ⟨RB, 6, none⟩ = some (.int .u8 (qb 6)) ∧ W.cell? ⟨RB, 7, none⟩ = some (.int .u8 (qb 7)) ∧ W.cell? ⟨RB, 8, none⟩ = some (.int .u16 Bb) ∧ W.cell? ⟨RB, 9, none⟩ = some (.int .u64 (Mk.H Xb)) ∧ W.cell? ⟨RB, 10, none⟩ = some (.int .u64 (Mk.L Xb)) ∧ W.cell? ⟨RB, 11, none⟩ = some (.slice ab2 nb2 cb2) ∧ W.cell? ⟨g, 0, none⟩ = some (.int .u8 (h 0 0)) ∧ W.cell? ⟨g, 1, none⟩ = some (.int .u8 (h 0 1)) ∧ W.cell? ⟨g, 2, none⟩ = some (.int .u8 (h 0 2)) ∧ W.cell? ⟨g, 3, none⟩ = some (.int .u8 (h 0 3)) ∧ W.cell? ⟨g, 4, none⟩ = some (.int .u8 (h 0 4)) ∧ W.cell? ⟨g, 5, none⟩ = some (.int .u8 (h 0 5)) ∧ W.cell? ⟨g, 6, none⟩ = some (.int .u8 (h 0 6)) ∧ W.cell? ⟨g, 7, none⟩ = some (.int .u8 (h 0 7)) ∧ W.cell? ⟨g, 8, none⟩ = some (.int .u16 (B 0)) ∧ W.cell? ⟨g, 9, none⟩ = some (.int .u64 (Mk.H (Y 0))) ∧ W.cell? ⟨g, 10, none⟩ = some (.int .u64 (Mk.L (Y 0))) ∧ W.cell? ⟨g, 11, none⟩ = some (.slice (A 0) (bs 0).length (C 0)) ∧ W.cell? ⟨g, 12, none⟩ = some (.int .u8 (h 1 0)) ∧ W.cell? ⟨g, 13, none⟩ = some (.int .u8 (h 1 1)) ∧ W.cell? ⟨g, 14, none⟩ = some (.int .u8 (h 1 2)) ∧ W.cell? ⟨g, 15, none⟩ = some (.int .u8 (h 1 3)) ∧ W.cell? ⟨g, 16, none⟩ = some (.int .u8 (h 1 4)) ∧ W.cell? ⟨g, 17, none⟩ = some (.int .u8 (h 1 5)) ∧ W.cell? ⟨g, 18, none⟩ = some (.int .u8 (h 1 6)) ∧ W.cell? ⟨g, 19, none⟩ = some (.int .u8 (h 1 7)) ∧ W.cell? ⟨g, 20, none⟩ = some (.int .u16 (B 1)) ∧ W.cell? ⟨g, 21, none⟩ = some (.int .u64 (Mk.H (Y 1))) ∧ W.cell? ⟨g, 22, none⟩ = some (.int .u64 (Mk.L (Y 1))) ∧ W.cell? ⟨g, 23, none⟩ = some (.slice (A 1) (bs 1).length (C 1)) ∧ Q2 w pb po len ls R q BB X ab nb cb l RA qa Ba Xa aa na ca la RB qb Bb Xb ab2 nb2 cb2 lb base g sc h B Y A bs C W) : Q2 w pb po len ls R q BB X ab nb cb l RA qa Ba Xa aa na ca la RB qb Bb Xb ab2 nb2 cb2 lb base g sc h B Y A bs C W := hq.2.2.2.2.2.2.2.2.2.2.2.2.2.2.2.2.2.2.2.2.2.2.2.2.2.2.2.2.2.2.2.2.2.2.2.2.2.2.2.2.2.2.2.2.2.2.2.2.2.2.2.2.2.2.2.2.2.2.2.2
theorem Q2.belows (hq : W.cell? ⟨R, 0, none⟩ = some (.int .u8 (q 0)) ∧ W.cell? ⟨R, 1, none⟩ = some (.int .u8 (q 1)) ∧ W.cell? ⟨R, 2, none⟩ = some (.int .u8 (q 2)) ∧ W.cell? ⟨R, 3, none⟩ = some (.int .u8 (q 3)) ∧ W.cell? ⟨R, 4, none⟩ = some (.int .u8 (q 4)) ∧ W.cell? ⟨R, 5, none⟩ = some (.int .u8 (q 5)) ∧ W.cell? ⟨R, 6, none⟩ = some (.int .u8 (q 6)) ∧ W.cell? ⟨R, 7, none⟩ = some (.int .u8 (q 7)) ∧ W.cell? ⟨R, 8, none⟩ = some (.int .u16 BB) ∧ W.cell? ⟨R, 9, none⟩ = some (.int .u64 (Mk.H X)) ∧ W.cell? ⟨R, 10, none⟩ = some (.int .u64 (Mk.L X)) ∧ W.cell? ⟨R, 11, none⟩ = some (.slice ab nb cb) ∧ W.cell? ⟨RA, 0, none⟩ = some (.int .u8 (qa 0)) ∧ W.cell? ⟨RA, 1, none⟩ = some (.int .u8 (qa 1)) ∧ W.cell? ⟨RA, 2, none⟩ = some (.int .u8 (qa 2)) ∧ W.cell? ⟨RA, 3, none⟩ = some (.int .u8 (qa 3)) ∧ W.cell? ⟨RA, 4, none⟩ = some (.int .u8 (qa 4)) ∧ W.cell? ⟨RA, 5, none⟩ = some (.int .u8 (qa 5)) ∧ W.cell? ⟨RA, 6, none⟩ = some (.int .u8 (qa 6)) ∧ W.cell? ⟨RA, 7, none⟩ = some (.int .u8 (qa 7)) ∧ W.cell? ⟨RA, 8, none⟩ = some (.int .u16 Ba) ∧ W.cell? ⟨RA, 9, none⟩ = some (.int .u64 (Mk.H Xa)) ∧ W.cell? ⟨RA, 10, none⟩ = some (.int .u64 (Mk.L Xa)) ∧ W.cell? ⟨RA, 11, none⟩ = some (.slice aa na ca) ∧ W.cell? ⟨RB, 0, none⟩ = some (.int .u8 (qb 0)) ∧ W.cell? ⟨RB, 1, none⟩ = some (.int .u8 (qb 1)) ∧ W.cell? ⟨RB, 2, none⟩ = some (.int .u8 (qb 2)) ∧ W.cell? ⟨RB, 3, none⟩ = some (.int .u8 (qb 3)) ∧ W.cell? ⟨RB, 4, none⟩ = some (.int .u8 (qb 4)) ∧ W.cell? ⟨RB, 5, none⟩ = some (.int .u8 (qb 5)) ∧ W.cell? ⟨RB, 6, none⟩ = some (.int .u8 (qb 6)) ∧ W.cell? ⟨RB, 7, none⟩ = some (.int .u8 (qb 7)) ∧ W.cell? ⟨RB, 8, none⟩ = some (.int .u16 Bb) ∧ W.cell? ⟨RB, 9, none⟩ = some (.int .u64 (Mk.H Xb)) ∧ W.cell? ⟨RB, 10, none⟩ = some (.int .u64 (Mk.L Xb)) ∧ W.cell? ⟨RB, 11, none⟩ = some (.slice ab2 nb2 cb2) ∧ W.cell? ⟨g, 0, none⟩ = some (.int .u8 (h 0 0)) ∧ W.cell? ⟨g, 1, none⟩ = some (.int .u8 (h 0 1)) ∧ W.cell? ⟨g, 2, none⟩ = some (.int .u8 (h 0 2)) ∧ W.cell? ⟨g, 3, none⟩ = some (.int .u8 (h 0 3)) ∧ W.cell? ⟨g, 4, none⟩ = some (.int .u8 (h 0 4)) ∧ W.cell? ⟨g, 5, none⟩ = some (.int .u8 (h 0 5)) ∧ W.cell? ⟨g, 6, none⟩ = some (.int .u8 (h 0 6)) ∧ W.cell? ⟨g, 7, none⟩ = some (.int .u8 (h 0 7)) ∧ W.cell? ⟨g, 8, none⟩ = some (.int .u16 (B 0)) ∧ W.cell? ⟨g, 9, none⟩ = some (.int .u64 (Mk.H (Y 0))) ∧ W.cell? ⟨g, 10, none⟩ = some (.int .u64 (Mk.L (Y 0))) ∧ W.cell? ⟨g, 11, none⟩ = some (.slice (A 0) (bs 0).length (C 0)) ∧ W.cell? ⟨g, 12, none⟩ = some (.int .u8 (h 1 0)) ∧ W.cell? ⟨g, 13, none⟩ = some (.int .u8 (h 1 1)) ∧ W.cell? ⟨g, 14, none⟩ = some (.int .u8 (h 1 2)) ∧ W.cell? ⟨g, 15, none⟩ = some (.int .u8 (h 1 3)) ∧ W.cell? ⟨g, 16, none⟩ = some (.int .u8 (h 1 4)) ∧ W.cell? ⟨g, 17, none⟩ = some (.int .u8 (h 1 5)) ∧ W.cell? ⟨g, 18, none⟩ = some (.int .u8 (h 1 6)) ∧ W.cell? ⟨g, 19, none⟩ = some (.int .u8 (h 1 7)) ∧ W.cell? ⟨g, 20, none⟩ = some (.int .u16 (B 1)) ∧ W.cell? ⟨g, 21, none⟩ = some (.int .u64 (Mk.H (Y 1))) ∧ W.cell? ⟨g, 22, none⟩ = some (.int .u64 (Mk.L (Y 1))) ∧ W.cell? ⟨g, 23, none⟩ = some (.slice (A 1) (bs 1).length (C 1)) ∧ Q2 w pb po len ls R q BB X ab nb cb l RA qa Ba Xa aa na ca la RB qb Bb Xb ab2 nb2 cb2 lb base g sc h B Y A bs C W) (hb : Below W.heap.size W W') : W'.cell? ⟨R, 0, none⟩ = some (.int .u8 (q 0)) ∧ W'.cell? ⟨R, 1, none⟩ = some (.int .u8 (q 1)) ∧ W'.cell? ⟨R, 2, none⟩ = some (.int .u8 (q 2)) ∧ W'.cell? ⟨R, 3, none⟩ = some (.int .u8 (q 3)) ∧ W'.cell? ⟨R, 4, none⟩ = some (.int .u8 (q 4)) ∧ W'.cell? ⟨R, 5, none⟩ = some (.int .u8 (q 5)) ∧ W'.cell? ⟨R, 6, none⟩ = some (.int .u8 (q 6)) ∧ W'.cell? ⟨R, 7, none⟩ = some (.int .u8 (q 7)) ∧ W'.cell? ⟨R, 8, none⟩ = some (.int .u16 BB) ∧ W'.cell? ⟨R, 9, none⟩ = some (.int .u64 (Mk.H X)) ∧ W'.cell? ⟨R, 10, none⟩ = some (.int .u64 (Mk.L X)) ∧ W'.cell? ⟨R, 11, none⟩ = some (.slice ab nb cb) ∧ W'.cell? ⟨RA, 0, none⟩ = some (.int .u8 (qa 0)) ∧ W'.cell? ⟨RA, 1, none⟩ = some (.int .u8 (qa 1)) ∧ W'.cell? ⟨RA, 2, none⟩ = some (.int .u8 (qa 2)) ∧ W'.cell? ⟨RA, 3, none⟩ = some (.int .u8 (qa 3)) ∧ W'.cell? ⟨RA, 4, none⟩ = some (.int .u8 (qa 4)) ∧ W'.cell? ⟨RA, 5, none⟩ = some (.int .u8 (qa 5)) ∧ W'.cell? ⟨RA, 6, none⟩ = some (.int .u8 (qa 6)) ∧ W'.cell? ⟨RA, 7, none⟩ = some (.int .u8 (qa 7)) ∧ W'.cell? ⟨RA, 8, none⟩ = some (.int .u16 Ba) ∧ W'.cell? ⟨RA, 9, none⟩ = some (.int .u64 (Mk.H Xa)) ∧ W'.cell? ⟨RA, 10, none⟩ = some (.int .u64 (Mk.L Xa)) ∧ W'.cell? ⟨RA, 11, none⟩ = some (.slice aa na ca) ∧ W'.cell? ⟨RB, 0, none⟩ = some (.int .u8 (qb 0)) ∧ W'.cell? ⟨RB, 1, none⟩ = some (.int .u8 (qb 1)) ∧ W'.cell? ⟨RB, 2, none⟩ = some (.int .u8 (qb 2)) ∧ W'.cell? ⟨RB, 3, none⟩ = some (.int .u8 (qb 3)) ∧ W'.cell? ⟨RB, 4, none⟩ = some (.int .u8 (qb 4)) ∧ W'.cell? ⟨RB, 5, none⟩ = some (.int .u8 (qb 5)) ∧ W'.cell? ⟨RB, 6, none⟩ = some (.int .u8 (qb 6)) ∧ W'.cell? ⟨RB, 7, none⟩ = some (.int .u8 (qb 7)) ∧ W'.cell? ⟨RB, 8, none⟩ = some (.int .u16 Bb) ∧ W'.cell? ⟨RB, 9, none⟩ = some (.int .u64 (Mk.H Xb)) ∧ W'.cell? ⟨RB, 10, none⟩ = some (.int .u64 (Mk.L Xb)) ∧ W'.cell? ⟨RB, 11, none⟩ = some (.slice ab2 nb2 cb2) ∧ W'.cell? ⟨g, 0, none⟩ = some (.int .u8 (h 0 0)) ∧ W'.cell? ⟨g, 1, none⟩ = some (.int .u8 (h 0 1)) ∧ W'.cell? ⟨g, 2, none⟩ = some (.int .u8 (h 0 2)) ∧ W'.cell? ⟨g, 3, none⟩ = some (.int .u8 (h 0 3)) ∧ W'.cell? ⟨g, 4, none⟩ = some (.int .u8 (h 0 4)) ∧ W'.cell? ⟨g, 5, none⟩ = some (.int .u8 (h 0 5)) ∧ W'.cell? ⟨g, 6, none⟩ = some (.int .u8 (h 0 6)) ∧ W'.cell? ⟨g, 7, none⟩ = some (.int .u8 (h 0 7)) ∧ W'.cell? ⟨g, 8, none⟩ = some (.int .u16 (B 0)) ∧ W'.cell? ⟨g, 9, none⟩ = some (.int .u64 (Mk.H (Y 0))) ∧ W'.cell? ⟨g, 10, none⟩ = some (.int .u64 (Mk.L (Y 0))) ∧ W'.cell? ⟨g, 11, none⟩ = some (.slice (A 0) (bs 0).length (C 0)) ∧ W'.cell? ⟨g, 12, none⟩ = some (.int .u8 (h 1 0)) ∧ W'.cell? ⟨g, 13, none⟩ = some (.int .u8 (h 1 1)) ∧ W'.cell? ⟨g, 14, none⟩ = some (.int .u8 (h 1 2)) ∧ W'.cell? ⟨g, 15, none⟩ = some (.int .u8 (h 1 3)) ∧ W'.cell? ⟨g, 16, none⟩ = some (.int .u8 (h 1 4)) ∧ W'.cell? ⟨g, 17, none⟩ = some (.int .u8 (h 1 5)) ∧ W'.cell? ⟨g, 18, none⟩ = some (.int .u8 (h 1 6)) ∧ W'.cell? ⟨g, 19, none⟩ = some (.int .u8 (h 1 7)) ∧ W'.cell? ⟨g, 20, none⟩ = some (.int .u16 (B 1)) ∧ W'.cell? ⟨g, 21, none⟩ = some (.int .u64 (Mk.H (Y 1))) ∧ W'.cell? ⟨g, 22, none⟩ = some (.int .u64 (Mk.L (Y 1))) ∧ W'.cell? ⟨g, 23, none⟩ = some (.slice (A 1) (bs 1).length (C 1)) ∧ Q2 w pb po len ls R q BB X ab nb cb l RA qa Ba Xa aa na ca la RB qb Bb Xb ab2 nb2 cb2 lb base g sc h B Y A bs C W' := ((Q2.of hq).below hb).all
theorem Q2.drews (hq : W.cell? ⟨R, 0, none⟩ = some (.int .u8 (q 0)) ∧ W.cell? ⟨R, 1, none⟩ = some (.int .u8 (q 1)) ∧ W.cell? ⟨R, 2, none⟩ = some (.int .u8 (q 2)) ∧ W.cell? ⟨R, 3, none⟩ = some (.int .u8 (q 3)) ∧ W.cell? ⟨R, 4, none⟩ = some (.int .u8 (q 4)) ∧ W.cell? ⟨R, 5, none⟩ = some (.int .u8 (q 5)) ∧ W.cell? ⟨R, 6, none⟩ = some (.int .u8 (q 6)) ∧ W.cell? ⟨R, 7, none⟩ = some (.int .u8 (q 7)) ∧ W.cell? ⟨R, 8, none⟩ = some (.int .u16 BB) ∧ W.cell? ⟨R, 9, none⟩ = some (.int .u64 (Mk.H X)) ∧ W.cell? ⟨R, 10, none⟩ = some (.int .u64 (Mk.L X)) ∧ W.cell? ⟨R, 11, none⟩ = some (.slice ab nb cb) ∧ W.cell? ⟨RA, 0, none⟩ = some (.int .u8 (qa 0)) ∧ W.cell? ⟨RA, 1, none⟩ = some (.int .u8 (qa 1)) ∧ W.cell? ⟨RA, 2, none⟩ = some (.int .u8 (qa 2)) ∧ W.cell? ⟨RA, 3, none⟩ = some (.int .u8 (qa 3)) ∧ W.cell? ⟨RA, 4, none⟩ = some (.int .u8 (qa 4)) ∧ W.cell? ⟨RA, 5, none⟩ = some (.int .u8 (qa 5)) ∧ W.cell? ⟨RA, 6, none⟩ = some (.int .u8 (qa 6)) ∧ W.cell? ⟨RA, 7, none⟩ = some (.int .u8 (qa 7)) ∧ W.cell? ⟨RA, 8, none⟩ = some (.int .u16 Ba) ∧ W.cell? ⟨RA, 9, none⟩ = some (.int .u64 (Mk.H Xa)) ∧ W.cell? ⟨RA, 10, none⟩ = some (.int .u64 (Mk.L Xa)) ∧ W.cell? ⟨RA, 11, none⟩ = some (.slice aa na ca) ∧ W.cell? ⟨RB, 0, none⟩ = some (.int .u8 (qb 0)) ∧ W.cell? ⟨RB, 1, none⟩ = some (.int .u8 (qb 1)) ∧ W.cell? ⟨RB, 2, none⟩ = some (.int .u8 (qb 2)) ∧ W.cell? ⟨RB, 3, none⟩ = some (.int .u8 (qb 3)) ∧ W.cell? ⟨RB, 4, none⟩ = some (.int .u8 (qb 4)) ∧ W.cell? ⟨RB, 5, none⟩ = some (.int .u8 (qb 5)) ∧ W.cell? ⟨RB, 6, none⟩ = some (.int .u8 (qb 6)) ∧ W.cell? ⟨RB, 7, none⟩ = some (.int .u8 (qb 7)) ∧ W.cell? ⟨RB, 8, none⟩ = some (.int .u16 Bb) ∧ W.cell? ⟨RB, 9, none⟩ = some (.int .u64 (Mk.H Xb)) ∧ W.cell? ⟨RB, 10, none⟩ = some (.int .u64 (Mk.L Xb)) ∧ W.cell? ⟨RB, 11, none⟩ = some (.slice ab2 nb2 cb2) ∧ W.cell? ⟨g, 0, none⟩ = some (.int .u8 (h 0 0)) ∧ W.cell? ⟨g, 1, none⟩ = some (.int .u8 (h 0 1)) ∧ W.cell? ⟨g, 2, none⟩ = some (.int .u8 (h 0 2)) ∧ W.cell? ⟨g, 3, none⟩ = some (.int .u8 (h 0 3)) ∧ W.cell? ⟨g, 4, none⟩ = some (.int .u8 (h 0 4)) ∧ W.cell? ⟨g, 5, none⟩ = some (.int .u8 (h 0 5)) ∧ W.cell? ⟨g, 6, none⟩ = some (.int .u8 (h 0 6)) ∧ W.cell? ⟨g, 7, none⟩ = some (.int .u8 (h 0 7)) ∧ W.cell? ⟨g, 8, none⟩ = some (.int .u16 (B 0)) ∧ W.cell? ⟨g, 9, none⟩ = some (.int .u64 (Mk.H (Y 0))) ∧ W.cell? ⟨g, 10, none⟩ = some (.int .u64 (Mk.L (Y 0))) ∧ W.cell? ⟨g, 11, none⟩ = some (.slice (A 0) (bs 0).length (C 0)) ∧ W.cell? ⟨g, 12, none⟩ = some (.int .u8 (h 1 0)) ∧ W.cell? ⟨g, 13, none⟩ = some (.int .u8 (h 1 1)) ∧ W.cell? ⟨g, 14, none⟩ = some (.int .u8 (h 1 2)) ∧ W.cell? ⟨g, 15, none⟩ = some (.int .u8 (h 1 3)) ∧ W.cell? ⟨g, 16, none⟩ = some (.int .u8 (h 1 4)) ∧ W.cell? ⟨g, 17, none⟩ = some (.int .u8 (h 1 5)) ∧ W.cell? ⟨g, 18, none⟩ = some (.int .u8 (h 1 6)) ∧ W.cell? ⟨g, 19, none⟩ = some (.int .u8 (h 1 7)) ∧ W.cell? ⟨g, 20, none⟩ = some (.int .u16 (B 1)) ∧ W.cell? ⟨g, 21, none⟩ = some (.int .u64 (Mk.H (Y 1))) ∧ W.cell? ⟨g, 22, none⟩ = some (.int .u64 (Mk.L (Y 1))) ∧ W.cell? ⟨g, 23, none⟩ = some (.slice (A 1) (bs 1).length (C 1)) ∧ Q2 w pb po len ls R q BB X ab nb cb l RA qa Ba Xa aa na ca la RB qb Bb Xb ab2 nb2 cb2 lb base g sc h B Y A bs C W) : W.drew.cell? ⟨R, 0, none⟩ = some (.int .u8 (q 0)) ∧ W.drew.cell? ⟨R, 1, none⟩ = some (.int .u8 (q 1)) ∧ W.drew.cell? ⟨R, 2, none⟩ = some (.int .u8 (q 2)) ∧ W.drew.cell? ⟨R, 3, none⟩ = some (.int .u8 (q 3)) ∧ W.drew.cell? ⟨R, 4, none⟩ = some (.int .u8 (q 4)) ∧ W.drew.cell? ⟨R, 5, none⟩ = some (.int .u8 (q 5)) ∧ W.drew.cell? ⟨R, 6, none⟩ = some (.int .u8 (q 6)) ∧ W.drew.cell? ⟨R, 7, none⟩ = some (.int .u8 (q 7)) ∧ W.drew.cell? ⟨R, 8, none⟩ = some (.int .u16 BB) ∧ W.drew.cell? ⟨R, 9, none⟩ = some (.int .u64 (Mk.H X)) ∧ W.drew.cell? ⟨R, 10, none⟩ = some (.int .u64 (Mk.L X)) ∧ W.drew.cell? ⟨R, 11, none⟩ = some (.slice ab nb cb) ∧ W.drew.cell? ⟨RA, 0, none⟩ = some (.int .u8 (qa 0)) ∧ W.drew.cell? ⟨RA, 1, none⟩ = some (.int .u8 (qa 1)) ∧ W.drew.cell? ⟨RA, 2, none⟩ = some (.int .u8 (qa 2)) ∧ W.drew.cell? ⟨RA, 3, none⟩ = some (.int .u8 (qa 3)) ∧ W.drew.cell? ⟨RA, 4, none⟩ = some (.int .u8 (qa 4)) ∧ W.drew.cell? ⟨RA, 5, none⟩ = some (.int .u8 (qa 5)) ∧ W.drew.cell? ⟨RA, 6, none⟩ = some (.int .u8 (qa 6)) ∧ W.drew.cell? ⟨RA, 7, none⟩ = some (.int .u8 (qa 7)) ∧ W.drew.cell? ⟨RA, 8, none⟩ = some (.int .u16 Ba) ∧ W.drew.cell? ⟨RA, 9, none⟩ = some (.int .u64 (Mk.H Xa)) ∧ W.drew.cell? ⟨RA, 10, none⟩ = some (.int .u64 (Mk.L Xa)) ∧ W.drew.cell? ⟨RA, 11, none⟩ = some (.slice aa na ca) ∧ W.drew.cell? ⟨RB, 0, none⟩ = some (.int .u8 (qb 0)) ∧ W.drew.cell? ⟨RB, 1, none⟩ = some (.int .u8 (qb 1)) ∧ W.drew.cell? ⟨RB, 2, none⟩ = some (.int .u8 (qb 2)) ∧ W.drew.cell? ⟨RB, 3, none⟩ = some (.int .u8 (qb 3)) ∧ W.drew.cell? ⟨RB, 4, none⟩ = some (.int .u8 (qb 4)) ∧ W.drew.cell? ⟨RB, 5, none⟩ = some (.int .u8 (qb 5)) ∧ W.drew.cell? ⟨RB, 6, none⟩ = some (.int .u8 (qb 6)) ∧ W.drew.cell? ⟨RB, 7, none⟩ = some (.int .u8 (qb 7)) ∧ W.drew.cell? ⟨RB, 8, none⟩ = some (.int .u16 Bb) ∧ W.drew.cell? ⟨RB, 9, none⟩ = some (.int .u64 (Mk.H Xb)) ∧ W.drew.cell? ⟨RB, 10, none⟩ = some (.int .u64 (Mk.L Xb)) ∧ W.drew.cell? ⟨RB, 11, none⟩ = some (.slice ab2 nb2 cb2) ∧ W.drew.cell? ⟨g, 0, none⟩ = some (.int .u8 (h 0 0)) ∧ W.drew.cell? ⟨g, 1, none⟩ = some (.int .u8 (h 0 1)) ∧ W.drew.cell? ⟨g, 2, none⟩ = some (.int .u8 (h 0 2)) ∧ W.drew.cell? ⟨g, 3, none⟩ = some (.int .u8 (h 0 3)) ∧ W.drew.cell? ⟨g, 4, none⟩ = some (.int .u8 (h 0 4)) ∧ W.drew.cell? ⟨g, 5, none⟩ = some (.int .u8 (h 0 5)) ∧ W.drew.cell? ⟨g, 6, none⟩ = some (.int .u8 (h 0 6)) ∧ W.drew.cell? ⟨g, 7, none⟩ = some (.int .u8 (h 0 7)) ∧ W.drew.cell? ⟨g, 8, none⟩ = some (.int .u16 (B 0)) ∧ W.drew.cell? ⟨g, 9, none⟩ = some (.int .u64 (Mk.H (Y 0))) ∧ W.drew.cell? ⟨g, 10, none⟩ = some (.int .u64 (Mk.L (Y 0))) ∧ W.drew.cell? ⟨g, 11, none⟩ = some (.slice (A 0) (bs 0).length (C 0)) ∧ W.drew.cell? ⟨g, 12, none⟩ = some (.int .u8 (h 1 0)) ∧ W.drew.cell? ⟨g, 13, none⟩ = some (.int .u8 (h 1 1)) ∧ W.drew.cell? ⟨g, 14, none⟩ = some (.int .u8 (h 1 2)) ∧ W.drew.cell? ⟨g, 15, none⟩ = some (.int .u8 (h 1 3)) ∧ W.drew.cell? ⟨g, 16, none⟩ = some (.int .u8 (h 1 4)) ∧ W.drew.cell? ⟨g, 17, none⟩ = some (.int .u8 (h 1 5)) ∧ W.drew.cell? ⟨g, 18, none⟩ = some (.int .u8 (h 1 6)) ∧ W.drew.cell? ⟨g, 19, none⟩ = some (.int .u8 (h 1 7)) ∧ W.drew.cell? ⟨g, 20, none⟩ = some (.int .u16 (B 1)) ∧ W.drew.cell? ⟨g, 21, none⟩ = some (.int .u64 (Mk.H (Y 1))) ∧ W.drew.cell? ⟨g, 22, none⟩ = some (.int .u64 (Mk.L (Y 1))) ∧ W.drew.cell? ⟨g, 23, none⟩ = some (.slice (A 1) (bs 1).length (C 1)) ∧ Q2 w pb po len ls R q BB X ab nb cb l RA qa Ba Xa aa na ca la RB qb Bb Xb ab2 nb2 cb2 lb base g sc h B Y A bs C W.drew := Q2.belows hq ((Below.refl _ W).drew)
end
theorem body_le {ls : List (List Int)} (h : PkB ls) : (Pa.body ls).length ≤ 1500 := by
  refine Pa.all_le 1500 _ [] (by simp) fun l hl => ?_
  obtain ⟨y, hy, rfl⟩ := List.mem_map.1 hl
  have := (h y hy).2
  rw [List.length_drop]; omega
theorem eight {l : List Int} {q : Nat → Int} (h : l.length = 8) (hq : ∀ j, q j = l.getD j 0) : [q 0, q 1, q 2, q 3, q 4, q 5, q 6, q 7] = l := by
  rw [hq 0, hq 1, hq 2, hq 3, hq 4, hq 5, hq 6, hq 7]
  match l, h with
  | [_, _, _, _, _, _, _, _], _ => rfl
/-- A repair of a block holds of its packets. -/
theorem holds_row {W : World} {base g sc : Nat} {ls zss : List (List Int)} {A : Nat → Option Addr} {C : Nat → Nat} {n : Nat} (hr : WRow W base (some ⟨g, 0, none⟩) n sc (Pa.bh ls zss) (Pa.bb ls zss) (Pa.bx ls zss) A (Pa.bd ls zss) C) {k : Nat} (hk : k < n) (ms : List (List Int)) (hms : Pa.pk ls zss k = ms) (a : Option Addr) (len c : Nat) (hp : PksAt W a len ms) (hlen : len ≤ 1000000000) (hc : Pa.code ms = 0) (hb : PkB ms) :
    Calls Try.prog 26 #[.agg #[.int .u8 (Pa.bh ls zss k 0), .int .u8 (Pa.bh ls zss k 1), .int .u8 (Pa.bh ls zss k 2), .int .u8 (Pa.bh ls zss k 3), .int .u8 (Pa.bh ls zss k 4), .int .u8 (Pa.bh ls zss k 5), .int .u8 (Pa.bh ls zss k 6), .int .u8 (Pa.bh ls zss k 7), .int .u16 (Pa.bb ls zss k), .int .u64 (Mk.H (Pa.bx ls zss k)), .int .u64 (Mk.L (Pa.bx ls zss k)), .slice (A k) (Pa.bd ls zss k).length (C k)], .slice a len c] W (ValB (.bool true) W) := by
  have h := holds_any (Pa.bh ls zss k) (Pa.bb ls zss k) (Pa.bx ls zss k) (A k) (Pa.bd ls zss k).length (C k) (Pa.bd ls zss k) a len c ms W hp hlen (fun j => by unfold Pa.bh; rw [hms]; exact Pa.head_ok hb j) (hr.own k hk).bat (by
    unfold Pa.bd; rw [hms]
    have := body_le hb
    omega)
  have e : Pa.holds (Pa.bh ls zss k) (Pa.bb ls zss k) (Pa.bx ls zss k) (Pa.bd ls zss k) ms = true := by
    have h1 := Pa.holds_self hc hb
    subst hms
    exact h1
  rw [e] at h
  exact h
theorem last_facts {len cap m : Nat} (h : len - 1 = m) (h0 : 0 < len) (hc : len ≤ cap) (hl : len ≤ 48) : m < len ∧ m < cap ∧ (m : Int) < (cap : Int) ∧ (m : Int) < (len : Int) ∧ IntKind.i64.wrap ((len : Int) - 1) = (m : Int) ∧ wrap64 ((len : Int) - 1) = (m : Int) ∧ IntKind.i64.wrap (m : Int) = (m : Int) ∧ wrap64 (m : Int) = (m : Int) :=
  ⟨by omega, by omega, by omega, by omega, by rw [IntKind.wrap_i64]; omega, by unfold wrap64; omega, by rw [IntKind.wrap_i64]; omega, by unfold wrap64; omega⟩
theorem max_beq {a b c : Nat} (h : c = max a b) : ((c : Int) == max (a : Int) (b : Int)) = true := by rw [h]; simp; omega
end Go.Proofs.Ytedhmoihlfjbdaa
namespace Go.Proofs.Ytedhmoihlfjbdaa
open Go.RowKit Go.Shelf
set_option linter.unusedVariables false
/-- As PksAt, of whatever lengths. -/
structure PksW (W : World) (a : Option Addr) (len : Nat) (ls : List (List Int)) : Prop where
  count : ls.length = len
  row : ∃ b o, ∃ (av : Nat → Option Addr) (nv cv : Nat → Nat), ∀ k, k < len → a = some ⟨b, o, none⟩ ∧ b < W.heap.size ∧ W.cell? ⟨b, o + k, none⟩ = some (.slice (av k) (nv k) (cv k)) ∧ BAt W (av k) (nv k) (ls.getD k []) ∧ nv k ≤ cv k
theorem PksW.below {W W' : World} {a : Option Addr} {len : Nat} {ls : List (List Int)} (h : PksW W a len ls) (hb : Below W.heap.size W W') : PksW W' a len ls := by
  obtain ⟨b, o, av, nv, cv, hr⟩ := h.row
  refine ⟨h.count, b, o, av, nv, cv, fun k hk => ?_⟩
  obtain ⟨h1, h2, h3, h4, h5⟩ := hr k hk
  exact ⟨h1, by have := hb.size; omega, (hb.cell (p := ⟨b, o + k, none⟩) h2).trans h3, h4.below hb, h5⟩
theorem PksW.get {W : World} {a : Option Addr} {len : Nat} {ls : List (List Int)} (h : PksW W a len ls) {k : Nat} (hk : k < len) :
    ∃ b o pa pn pc, a = some ⟨b, o, none⟩ ∧ b < W.heap.size ∧ W.cell? ⟨b, o + k, none⟩ = some (.slice pa pn pc) ∧ BAt W pa pn (ls.getD k []) ∧ pn ≤ pc := by
  obtain ⟨b, o, av, nv, cv, hr⟩ := h.row
  exact ⟨b, o, _, _, _, hr k hk⟩
theorem PksW.at' {W : World} {a : Option Addr} {len : Nat} {ls : List (List Int)} (h : PksW W a len ls) (hs : ∀ k, k < len → (ls.getD k []).length ≤ 1600) : PksAt W a len ls := by
  obtain ⟨b, o, av, nv, cv, hr⟩ := h.row
  refine ⟨h.count, b, o, av, nv, cv, fun k hk => ?_⟩
  obtain ⟨h1, h2, h3, h4, h5⟩ := hr k hk
  exact ⟨h1, h2, h3, h4, h5, by have := hs k hk; have := h4.len; omega⟩
theorem few_le {ls : List (List Int)} {many long : Int} (h : Pa.few ls many long = true) : (ls.length : Int) ≤ many ∧ ∀ k, k < ls.length → ((ls.getD k []).length : Int) ≤ long := by
  unfold Pa.few at h
  rw [Bool.and_eq_true, decide_eq_true_eq] at h
  exact ⟨h.1, fun k hk => Pa.short_at hk h.2⟩
theorem num2_bd {l : List Int} (h : Str.Ok l) : 0 ≤ Num (l.take 2) ∧ Num (l.take 2) < 65536 := by
  have e : l.take 2 = l.take (min 2 l.length) := by
    by_cases h2 : 2 ≤ l.length
    · rw [Nat.min_eq_left h2]
    · rw [Nat.min_eq_right (by omega), List.take_of_length_le (by omega), List.take_of_length_le (Nat.le_refl _)]
  rw [e]
  have hb := Num_bd l h (min 2 l.length) (Nat.min_le_right _ _)
  refine ⟨hb.1, Int.lt_of_lt_of_le hb.2 ?_⟩
  have : min 2 l.length ≤ 2 := Nat.min_le_left _ _
  match hm : min 2 l.length, this with
  | 0, _ => decide
  | 1, _ => decide
  | 2, _ => decide
theorem PksW.okb {W : World} {a : Option Addr} {len : Nat} {ls : List (List Int)} (h : PksW W a len ls) {k : Nat} (hk : k < len) : Str.Ok (ls.getD k []) := by
  obtain ⟨_, _, _, _, _, _, _, _, hba, _⟩ := h.get hk
  exact hba.ok
theorem PksW.pkok {W : World} {a : Option Addr} {len : Nat} {ls : List (List Int)} (h : PksW W a len ls) : PkOk ls := fun j hj => by
  have ho := h.okb (k := j) (by have := h.count; omega)
  exact num2_bd (drop_Ok ho 2)
theorem PksW.pkb {W : World} {a : Option Addr} {len : Nat} {ls : List (List Int)} (h : PksW W a len ls) (hs : ∀ k, k < len → (ls.getD k []).length ≤ 1500) : PkB ls := fun l hl => by
  obtain ⟨k, hk, rfl⟩ := List.getElem_of_mem hl
  have e : ls.getD k [] = ls[k] := by rw [List.getD_eq_getElem?_getD, List.getElem?_eq_getElem hk]; rfl
  have hc := h.count
  rw [← e]
  exact ⟨h.okb (by omega), hs k (by omega)⟩
/-- Packets that came in. -/
def inl (len : Nat) (L : Nat → Nat) (Z : Nat → List Int) : List (List Int) := (List.range len).map fun k => (Z k).take (L k)
theorem inl_at {len : Nat} {L : Nat → Nat} {Z : Nat → List Int} {k : Nat} (h : k < len) : (inl len L Z).getD k [] = (Z k).take (L k) := by
  rw [List.getD_eq_getElem?_getD, inl, List.getElem?_map, List.getElem?_range h]; rfl
theorem RowsIn.pkw {w : World} {a : Option Addr} {len cap : Nat} {A : Nat → Option Addr} {L C : Nat → Nat} {Z : Nat → List Int} (h : RowsIn .u8 w a len cap A L C Z) : PksW w a len (inl len L Z) := by
  obtain ⟨_, _, b, o, hr⟩ := h.row
  refine ⟨by simp [inl], b, o, A, L, C, fun k hk => ?_⟩
  obtain ⟨h1, h2, h3, h4, h5⟩ := hr k hk
  rw [inl_at hk]
  exact ⟨h1, h2, h3, h4, h5⟩
set_option maxHeartbeats 1000000 in
set_option maxRecDepth 100000 in
theorem few_pkw (a : Option Addr) (len c : Nat) (ls : List (List Int)) (many long : Int) (w : World) (h : PksW w a len ls) (hlen : len ≤ 9223372036854775807) (hm : 0 ≤ many) :
    Calls Try.prog 13 #[.slice a len c, .int .i64 many, .int .i64 long] w (ValB (.bool (Pa.few ls many long)) w) := by
  have hcount := h.count
  have HP := Lib.hid h; clear h
  go_enter Try.func13, Try.ntmps13
  go_wp2
  go_loopw [7] (fun iv wr => ∃ k : Nat, k ≤ len ∧ iv = .int .i64 k ∧ Hid (wr = w ∧ Pa.short long ls k = true)) (fun iv _ => len - (intOf iv).toNat)
  case atStart => exact ⟨0, Nat.zero_le _, rfl, Lib.hid ⟨rfl, rfl⟩⟩
  case round =>
    obtain ⟨k, hk, rfl, HK⟩ := hrel
    obtain ⟨rfl, hsh⟩ := HK.out
    have HSH := Lib.hid hsh
    clear hsh HK
    by_cases hlt : k < len
    · have hltz : (k : Int) < (len : Int) := by omega
      by_cases hmk : (k : Int) ≤ many
      · obtain ⟨b, o, pa, pn, pc, rfl, hbl, hcell, hba, _⟩ := HP.out.get hlt
        have hln := hba.len
        have HLN := Lib.hid hln
        clear hba hln
        by_cases hlo : (pn : Int) ≤ long
        · have hlo' : ¬ long < (pn : Int) := by omega
          go_wp2
          go_roundw
          case rel => exact ⟨k + 1, by omega, by go_num, Lib.hid ⟨by first | trivial | rfl, by show (Pa.short long ls k && decide (((ls.getD k []).length : Int) ≤ long)) = true; rw [HSH.out, HLN.out, decide_eq_true hlo]; rfl⟩⟩
          case measure => simp [intOf]; omega
        · have hlo' : long < (pn : Int) := by omega
          have hno : Pa.few ls many long = false := by
            unfold Pa.few
            rw [Pa.short_no (k := k) (by omega) (by rw [HLN.out]; exact hlo), Bool.and_false]
          have HNO := Lib.hid hno
          clear hno
          go_wp2
          exact bodyPost_ret (v := .bool false) (by simp [results, Try.results13, go_sem]) rfl ⟨by rw [HNO.out], Below.refl _ _⟩
      · have hmk' : ¬ (len : Int) ≤ many := by omega
        have hno : Pa.few ls many long = false := by unfold Pa.few; rw [hcount, decide_eq_false hmk', Bool.false_and]
        have HNO := Lib.hid hno
        clear hno
        go_wp2
        exact bodyPost_ret (v := .bool false) (by simp [results, Try.results13, go_sem]) rfl ⟨by rw [HNO.out], Below.refl _ _⟩
    · obtain rfl : k = len := by omega
      have hltz : ¬ (k : Int) < (k : Int) := by omega
      have hyes : Pa.few ls many long = decide ((k : Int) ≤ many) := by unfold Pa.few; rw [hcount, HSH.out, Bool.and_true]
      have HYES := Lib.hid hyes
      clear hyes
      go_wp2
      exact bodyPost_ret (v := .bool (decide ((k : Int) ≤ many))) (by simp [results, Try.results13, go_sem]) rfl ⟨by rw [HYES.out], Below.refl _ _⟩
end Go.Proofs.Ytedhmoihlfjbdaa
