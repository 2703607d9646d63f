
/-
  confluxlaw13.alive.
-/
import Derived.Test.YtedhmoihlfjbdaaPaAl0
namespace Go.Proofs.Ytedhmoihlfjbdaa
open Go.RowKit Go.Shelf
set_option linter.unusedVariables false
/-- What stands behind the first Make. -/
structure A13 (w : World) (ap : Option Addr) (R : Nat) (ar : Option Addr) (cr : Nat) (W : World) : Prop where
  ps : PksAt W ap 2 [pk1, pk2]
  rb : W.heap[R]? = some (.cells #[.int .u8 0, .int .u8 0, .int .u8 0, .int .u8 0, .int .u8 0, .int .u8 0, .int .u8 0, .int .u8 3, .int .u16 65535, .int .u64 13835058055282163712, .int .u64 0, .slice ar 2 cr] 32 (0, 0))
  bd : BAt W ar 2 [3, 98]
  low : Below w.heap.size w W
theorem A13.below {w : World} {ap : Option Addr} {R : Nat} {ar : Option Addr} {cr : Nat} {W W' : World} (h : A13 w ap R ar cr W) (hb : Below W.heap.size W W') : A13 w ap R ar cr W' :=
  ⟨h.ps.below hb, (hb.block _ (Array.getElem?_eq_some_iff.1 h.rb).1).trans h.rb, h.bd.below hb, h.low.trans (hb.mono h.low.size)⟩
theorem A13.alloc {w : World} {ap : Option Addr} {R : Nat} {ar : Option Addr} {cr : Nat} {W : World} (h : A13 w ap R ar cr W) (o : Obj) : A13 w ap R ar cr (W.alloc o) := h.below ((Below.refl _ W).alloc (Nat.le_refl _) _)
/-- What the last line reads. -/
structure Q13 (w : World) (ap : Option Addr) (R : Nat) (ar : Option Addr) (cr : Nat) (S : Nat) (q0 q1 q2 q3 q4 q5 q6 q7 H L : Int) (sa : Option Addr) (ns cs : Nat) (X : Nat) (xa : Option Addr) (xcc : Nat) (g : Nat) (nx : Option Addr) (ny : Nat) (W : World) : Prop where
  a : A13 w ap R ar cr W
  s : W.heap[S]? = some (.cells #[.int .u8 q0, .int .u8 q1, .int .u8 q2, .int .u8 q3, .int .u8 q4, .int .u8 q5, .int .u8 q6, .int .u8 q7, .int .u16 0, .int .u64 H, .int .u64 L, .slice sa ns cs] 32 (0, 0))
  x : W.heap[X]? = some (.cells #[.int .u8 0, .int .u8 0, .int .u8 0, .int .u8 0, .int .u8 0, .int .u8 0, .int .u8 0, .int .u8 3, .slice xa 2 xcc] 57 (0, 0))
  g : W.cell? ⟨g, 0, none⟩ = some (.slice nx 2 ny) ∧ g < W.heap.size
section
variable {w : World} {ap : Option Addr} {R : Nat} {ar : Option Addr} {cr : Nat} {S : Nat} {q0 q1 q2 q3 q4 q5 q6 q7 H L : Int} {sa : Option Addr} {ns cs : Nat} {X : Nat} {xa : Option Addr} {xcc : Nat} {g : Nat} {nx : Option Addr} {ny : Nat} {W W' : World}
theorem Q13.below (h : Q13 w ap R ar cr S q0 q1 q2 q3 q4 q5 q6 q7 H L sa ns cs X xa xcc g nx ny W) (hb : Below W.heap.size W W') : Q13 w ap R ar cr S q0 q1 q2 q3 q4 q5 q6 q7 H L sa ns cs X xa xcc g nx ny W' :=
  ⟨h.a.below hb, (hb.block _ (Array.getElem?_eq_some_iff.1 h.s).1).trans h.s, (hb.block _ (Array.getElem?_eq_some_iff.1 h.x).1).trans h.x, (hb.cell (p := ⟨g, 0, none⟩) h.g.2).trans h.g.1, Nat.lt_of_lt_of_le h.g.2 hb.size⟩
theorem Q13.all (h : Q13 w ap R ar cr S q0 q1 q2 q3 q4 q5 q6 q7 H L sa ns cs X xa xcc g nx ny W) : W.cell? ⟨R, 0, none⟩ = some (.int .u8 0) ∧ W.cell? ⟨R, 1, none⟩ = some (.int .u8 0) ∧ W.cell? ⟨R, 2, none⟩ = some (.int .u8 0) ∧ W.cell? ⟨R, 3, none⟩ = some (.int .u8 0) ∧ W.cell? ⟨R, 4, none⟩ = some (.int .u8 0) ∧ W.cell? ⟨R, 5, none⟩ = some (.int .u8 0) ∧ W.cell? ⟨R, 6, none⟩ = some (.int .u8 0) ∧ W.cell? ⟨R, 7, none⟩ = some (.int .u8 3) ∧ W.cell? ⟨R, 8, none⟩ = some (.int .u16 65535) ∧ W.cell? ⟨R, 9, none⟩ = some (.int .u64 13835058055282163712) ∧ W.cell? ⟨R, 10, none⟩ = some (.int .u64 0) ∧ W.cell? ⟨R, 11, none⟩ = some (.slice ar 2 cr) ∧ W.cell? ⟨S, 8, none⟩ = some (.int .u16 0) ∧ W.cell? ⟨X, 0, none⟩ = some (.int .u8 0) ∧ W.cell? ⟨X, 1, none⟩ = some (.int .u8 0) ∧ W.cell? ⟨X, 2, none⟩ = some (.int .u8 0) ∧ W.cell? ⟨X, 3, none⟩ = some (.int .u8 0) ∧ W.cell? ⟨X, 4, none⟩ = some (.int .u8 0) ∧ W.cell? ⟨X, 5, none⟩ = some (.int .u8 0) ∧ W.cell? ⟨X, 6, none⟩ = some (.int .u8 0) ∧ W.cell? ⟨X, 7, none⟩ = some (.int .u8 3) ∧ W.cell? ⟨X, 8, none⟩ = some (.slice xa 2 xcc) ∧ W.cell? ⟨g, 0, none⟩ = some (.slice nx 2 ny) ∧ (convert 26 9 (.slice ar 2 cr)).run Try.prog W = .ok (.string ⟨#[3, 98]⟩) W ∧ Q13 w ap R ar cr S q0 q1 q2 q3 q4 q5 q6 q7 H L sa ns cs X xa xcc g nx ny W := by
  have hstr := str_of W ar 2 cr [3, 98] h.a.bd
  rw [show bytesOf [3, 98] = ⟨#[3, 98]⟩ from by decide] at hstr
  refine ⟨?_, ?_, ?_, ?_, ?_, ?_, ?_, ?_, ?_, ?_, ?_, ?_, ?_, ?_, ?_, ?_, ?_, ?_, ?_, ?_, ?_, ?_, h.g.1, hstr, h⟩
  iterate 12 (rw [cell_of_row W _ _ _ _ _ h.a.rb]; rfl)
  · rw [cell_of_row W _ _ _ _ _ h.s]; rfl
  iterate 9 (rw [cell_of_row W _ _ _ _ _ h.x]; rfl)
theorem Q13.of (h : W.cell? ⟨R, 0, none⟩ = some (.int .u8 0) ∧ W.cell? ⟨R, 1, none⟩ = some (.int .u8 0) ∧ W.cell? ⟨R, 2, none⟩ = some (.int .u8 0) ∧ W.cell? ⟨R, 3, none⟩ = some (.int .u8 0) ∧ W.cell? ⟨R, 4, none⟩ = some (.int .u8 0) ∧ W.cell? ⟨R, 5, none⟩ = some (.int .u8 0) ∧ W.cell? ⟨R, 6, none⟩ = some (.int .u8 0) ∧ W.cell? ⟨R, 7, none⟩ = some (.int .u8 3) ∧ W.cell? ⟨R, 8, none⟩ = some (.int .u16 65535) ∧ W.cell? ⟨R, 9, none⟩ = some (.int .u64 13835058055282163712) ∧ W.cell? ⟨R, 10, none⟩ = some (.int .u64 0) ∧ W.cell? ⟨R, 11, none⟩ = some (.slice ar 2 cr) ∧ W.cell? ⟨S, 8, none⟩ = some (.int .u16 0) ∧ W.cell? ⟨X, 0, none⟩ = some (.int .u8 0) ∧ W.cell? ⟨X, 1, none⟩ = some (.int .u8 0) ∧ W.cell? ⟨X, 2, none⟩ = some (.int .u8 0) ∧ W.cell? ⟨X, 3, none⟩ = some (.int .u8 0) ∧ W.cell? ⟨X, 4, none⟩ = some (.int .u8 0) ∧ W.cell? ⟨X, 5, none⟩ = some (.int .u8 0) ∧ W.cell? ⟨X, 6, none⟩ = some (.int .u8 0) ∧ W.cell? ⟨X, 7, none⟩ = some (.int .u8 3) ∧ W.cell? ⟨X, 8, none⟩ = some (.slice xa 2 xcc) ∧ W.cell? ⟨g, 0, none⟩ = some (.slice nx 2 ny) ∧ (convert 26 9 (.slice ar 2 cr)).run Try.prog W = .ok (.string ⟨#[3, 98]⟩) W ∧ Q13 w ap R ar cr S q0 q1 q2 q3 q4 q5 q6 q7 H L sa ns cs X xa xcc g nx ny W) : Q13 w ap R ar cr S q0 q1 q2 q3 q4 q5 q6 q7 H L sa ns cs X xa xcc g nx ny W := h.2.2.2.2.2.2.2.2.2.2.2.2.2.2.2.2.2.2.2.2.2.2.2.2
theorem Q13.belows (h : W.cell? ⟨R, 0, none⟩ = some (.int .u8 0) ∧ W.cell? ⟨R, 1, none⟩ = some (.int .u8 0) ∧ W.cell? ⟨R, 2, none⟩ = some (.int .u8 0) ∧ W.cell? ⟨R, 3, none⟩ = some (.int .u8 0) ∧ W.cell? ⟨R, 4, none⟩ = some (.int .u8 0) ∧ W.cell? ⟨R, 5, none⟩ = some (.int .u8 0) ∧ W.cell? ⟨R, 6, none⟩ = some (.int .u8 0) ∧ W.cell? ⟨R, 7, none⟩ = some (.int .u8 3) ∧ W.cell? ⟨R, 8, none⟩ = some (.int .u16 65535) ∧ W.cell? ⟨R, 9, none⟩ = some (.int .u64 13835058055282163712) ∧ W.cell? ⟨R, 10, none⟩ = some (.int .u64 0) ∧ W.cell? ⟨R, 11, none⟩ = some (.slice ar 2 cr) ∧ W.cell? ⟨S, 8, none⟩ = some (.int .u16 0) ∧ W.cell? ⟨X, 0, none⟩ = some (.int .u8 0) ∧ W.cell? ⟨X, 1, none⟩ = some (.int .u8 0) ∧ W.cell? ⟨X, 2, none⟩ = some (.int .u8 0) ∧ W.cell? ⟨X, 3, none⟩ = some (.int .u8 0) ∧ W.cell? ⟨X, 4, none⟩ = some (.int .u8 0) ∧ W.cell? ⟨X, 5, none⟩ = some (.int .u8 0) ∧ W.cell? ⟨X, 6, none⟩ = some (.int .u8 0) ∧ W.cell? ⟨X, 7, none⟩ = some (.int .u8 3) ∧ W.cell? ⟨X, 8, none⟩ = some (.slice xa 2 xcc) ∧ W.cell? ⟨g, 0, none⟩ = some (.slice nx 2 ny) ∧ (convert 26 9 (.slice ar 2 cr)).run Try.prog W = .ok (.string ⟨#[3, 98]⟩) W ∧ Q13 w ap R ar cr S q0 q1 q2 q3 q4 q5 q6 q7 H L sa ns cs X xa xcc g nx ny W) (hb : Below W.heap.size W W') : W'.cell? ⟨R, 0, none⟩ = some (.int .u8 0) ∧ W'.cell? ⟨R, 1, none⟩ = some (.int .u8 0) ∧ W'.cell? ⟨R, 2, none⟩ = some (.int .u8 0) ∧ W'.cell? ⟨R, 3, none⟩ = some (.int .u8 0) ∧ W'.cell? ⟨R, 4, none⟩ = some (.int .u8 0) ∧ W'.cell? ⟨R, 5, none⟩ = some (.int .u8 0) ∧ W'.cell? ⟨R, 6, none⟩ = some (.int .u8 0) ∧ W'.cell? ⟨R, 7, none⟩ = some (.int .u8 3) ∧ W'.cell? ⟨R, 8, none⟩ = some (.int .u16 65535) ∧ W'.cell? ⟨R, 9, none⟩ = some (.int .u64 13835058055282163712) ∧ W'.cell? ⟨R, 10, none⟩ = some (.int .u64 0) ∧ W'.cell? ⟨R, 11, none⟩ = some (.slice ar 2 cr) ∧ W'.cell? ⟨S, 8, none⟩ = some (.int .u16 0) ∧ W'.cell? ⟨X, 0, none⟩ = some (.int .u8 0) ∧ W'.cell? ⟨X, 1, none⟩ = some (.int .u8 0) ∧ W'.cell? ⟨X, 2, none⟩ = some (.int .u8 0) ∧ W'.cell? ⟨X, 3, none⟩ = some (.int .u8 0) ∧ W'.cell? ⟨X, 4, none⟩ = some (.int .u8 0) ∧ W'.cell? ⟨X, 5, none⟩ = some (.int .u8 0) ∧ W'.cell? ⟨X, 6, none⟩ = some (.int .u8 0) ∧ W'.cell? ⟨X, 7, none⟩ = some (.int .u8 3) ∧ W'.cell? ⟨X, 8, none⟩ = some (.slice xa 2 xcc) ∧ W'.cell? ⟨g, 0, none⟩ = some (.slice nx 2 ny) ∧ (convert 26 9 (.slice ar 2 cr)).run Try.prog W' = .ok (.string ⟨#[3, 98]⟩) W' ∧ Q13 w ap R ar cr S q0 q1 q2 q3 q4 q5 q6 q7 H L sa ns cs X xa xcc g nx ny W' := ((Q13.of h).below hb).all
theorem Q13.drews (h : W.cell? ⟨R, 0, none⟩ = some (.int .u8 0) ∧ W.cell? ⟨R, 1, none⟩ = some (.int .u8 0) ∧ W.cell? ⟨R, 2, none⟩ = some (.int .u8 0) ∧ W.cell? ⟨R, 3, none⟩ = some (.int .u8 0) ∧ W.cell? ⟨R, 4, none⟩ = some (.int .u8 0) ∧ W.cell? ⟨R, 5, none⟩ = some (.int .u8 0) ∧ W.cell? ⟨R, 6, none⟩ = some (.int .u8 0) ∧ W.cell? ⟨R, 7, none⟩ = some (.int .u8 3) ∧ W.cell? ⟨R, 8, none⟩ = some (.int .u16 65535) ∧ W.cell? ⟨R, 9, none⟩ = some (.int .u64 13835058055282163712) ∧ W.cell? ⟨R, 10, none⟩ = some (.int .u64 0) ∧ W.cell? ⟨R, 11, none⟩ = some (.slice ar 2 cr) ∧ W.cell? ⟨S, 8, none⟩ = some (.int .u16 0) ∧ W.cell? ⟨X, 0, none⟩ = some (.int .u8 0) ∧ W.cell? ⟨X, 1, none⟩ = some (.int .u8 0) ∧ W.cell? ⟨X, 2, none⟩ = some (.int .u8 0) ∧ W.cell? ⟨X, 3, none⟩ = some (.int .u8 0) ∧ W.cell? ⟨X, 4, none⟩ = some (.int .u8 0) ∧ W.cell? ⟨X, 5, none⟩ = some (.int .u8 0) ∧ W.cell? ⟨X, 6, none⟩ = some (.int .u8 0) ∧ W.cell? ⟨X, 7, none⟩ = some (.int .u8 3) ∧ W.cell? ⟨X, 8, none⟩ = some (.slice xa 2 xcc) ∧ W.cell? ⟨g, 0, none⟩ = some (.slice nx 2 ny) ∧ (convert 26 9 (.slice ar 2 cr)).run Try.prog W = .ok (.string ⟨#[3, 98]⟩) W ∧ Q13 w ap R ar cr S q0 q1 q2 q3 q4 q5 q6 q7 H L sa ns cs X xa xcc g nx ny W) : W.drew.cell? ⟨R, 0, none⟩ = some (.int .u8 0) ∧ W.drew.cell? ⟨R, 1, none⟩ = some (.int .u8 0) ∧ W.drew.cell? ⟨R, 2, none⟩ = some (.int .u8 0) ∧ W.drew.cell? ⟨R, 3, none⟩ = some (.int .u8 0) ∧ W.drew.cell? ⟨R, 4, none⟩ = some (.int .u8 0) ∧ W.drew.cell? ⟨R, 5, none⟩ = some (.int .u8 0) ∧ W.drew.cell? ⟨R, 6, none⟩ = some (.int .u8 0) ∧ W.drew.cell? ⟨R, 7, none⟩ = some (.int .u8 3) ∧ W.drew.cell? ⟨R, 8, none⟩ = some (.int .u16 65535) ∧ W.drew.cell? ⟨R, 9, none⟩ = some (.int .u64 13835058055282163712) ∧ W.drew.cell? ⟨R, 10, none⟩ = some (.int .u64 0) ∧ W.drew.cell? ⟨R, 11, none⟩ = some (.slice ar 2 cr) ∧ W.drew.cell? ⟨S, 8, none⟩ = some (.int .u16 0) ∧ W.drew.cell? ⟨X, 0, none⟩ = some (.int .u8 0) ∧ W.drew.cell? ⟨X, 1, none⟩ = some (.int .u8 0) ∧ W.drew.cell? ⟨X, 2, none⟩ = some (.int .u8 0) ∧ W.drew.cell? ⟨X, 3, none⟩ = some (.int .u8 0) ∧ W.drew.cell? ⟨X, 4, none⟩ = some (.int .u8 0) ∧ W.drew.cell? ⟨X, 5, none⟩ = some (.int .u8 0) ∧ W.drew.cell? ⟨X, 6, none⟩ = some (.int .u8 0) ∧ W.drew.cell? ⟨X, 7, none⟩ = some (.int .u8 3) ∧ W.drew.cell? ⟨X, 8, none⟩ = some (.slice xa 2 xcc) ∧ W.drew.cell? ⟨g, 0, none⟩ = some (.slice nx 2 ny) ∧ (convert 26 9 (.slice ar 2 cr)).run Try.prog W.drew = .ok (.string ⟨#[3, 98]⟩) W.drew ∧ Q13 w ap R ar cr S q0 q1 q2 q3 q4 q5 q6 q7 H L sa ns cs X xa xcc g nx ny W.drew := Q13.belows h ((Below.refl _ W).drew)
end
set_option maxHeartbeats 10000000 in
set_option maxRecDepth 100000 in
theorem alive13 (w : World) : Calls Try.prog 12 #[] w (ValB (.bool true) w) := by
  go_enter Try.func12, Try.ntmps12
  go_wp2_with fail
  refine (two_any w).mono ?_
  rintro e w1 ⟨ap0, cp, rfl, hP1, hc2, hB1⟩
  obtain ⟨pb, po, _, _, _, hap, _, _, _, _, _⟩ := hP1.get (k := 0) (by omega)
  subst hap
  obtain ⟨ap, hap⟩ : ∃ x, (some ⟨pb, po, none⟩ : Option Addr) = x := ⟨_, rfl⟩
  rw [hap] at hP1 ⊢
  have HAP := Lib.hid hap
  clear hap
  have HC2 := Lib.hid hc2; have HP1 := Lib.hid hP1; have HB1 := Lib.hid hB1
  clear hc2 hP1 hB1
  go_wp2_with fail
  refine (al_make ap cp w1 HP1.out).mono ?_
  rintro e w2 ⟨ar, cr, rfl, hO2, hB2⟩
  have HO2 := Lib.hid hO2; have HB2 := Lib.hid (bcomp HB1.out hB2)
  have HP2 := Lib.hid (HP1.out.below hB2)
  clear hO2 hB2
  obtain ⟨w3, hw3⟩ : ∃ u, w2.alloc (.cells #[.int .u8 0, .int .u8 0, .int .u8 0, .int .u8 0, .int .u8 0, .int .u8 0, .int .u8 0, .int .u8 3, .int .u16 65535, .int .u64 13835058055282163712, .int .u64 0, .slice ar 2 cr] 32) = u := ⟨_, rfl⟩
  have hA3 : A13 w ap w2.heap.size ar cr w3 := by
    have h23 : Below w2.heap.size w2 w3 := by rw [← hw3]; exact (Below.refl _ w2).alloc (Nat.le_refl _) _
    exact ⟨HP2.out.below h23, by rw [← hw3]; exact lit_new rfl, (HO2.out.below h23).bat, bcomp HB2.out h23⟩
  have HA3 := Lib.hid hA3
  clear hA3 HO2 HB2 HP2 HP1 HB1
  go_wp2_with fail
  clear hw3
  generalize w2.heap.size = R at *
  refine (al_nil w3).mono ?_
  rintro e w4 ⟨rfl, hB4⟩
  have HA4 := Lib.hid (HA3.out.below hB4)
  clear hB4 HA3
  go_wp2_with fail
  obtain ⟨w5, hw5⟩ : ∃ u, (w4.alloc (.cells #[.int .u8 0, .int .u8 0, .int .u8 0, .int .u8 0, .int .u8 0, .int .u8 0, .int .u8 0, .int .u8 0, .int .u16 0, .int .u64 0, .int .u64 0, .slice none 0 0] 32)).alloc (.cells #[.int .i64 1] 3) = u := ⟨_, rfl⟩
  have hz5 : Ints (some ⟨w4.heap.size + 1, 0, none⟩) 1 [1] w5 := by
    rw [← hw5]
    intro j hj
    match j, hj with
    | 0, _ => exact ⟨_, 0, rfl, by simp, by simp [go_sem], by decide, by decide⟩
  have hA5 : A13 w ap R ar cr w5 := by rw [← hw5]; exact (HA4.out.alloc _).alloc _
  have HA5 := Lib.hid hA5; have HZ5 := Lib.hid hz5
  rw [hw5]
  clear hw5 hA5 hz5 HA4
  refine (al_some ap cp _ w5 HA5.out.ps HZ5.out).mono ?_
  rintro e w6 ⟨q0, q1, q2, q3, q4, q5, q6, q7, H, L, sa, ns, cs, rfl, hB6⟩
  have HA6 := Lib.hid (HA5.out.below hB6)
  clear HA5 HZ5 hB6
  go_wp2_with fail
  obtain ⟨w7, hw7⟩ : ∃ u, (w6.alloc (.cells #[.int .u8 q0, .int .u8 q1, .int .u8 q2, .int .u8 q3, .int .u8 q4, .int .u8 q5, .int .u8 q6, .int .u8 q7, .int .u16 0, .int .u64 H, .int .u64 L, .slice sa ns cs] 32)).alloc (.cells #[.int .i64 1, .int .i64 1] 3) = u := ⟨_, rfl⟩
  have hz7 : Ints (some ⟨w6.heap.size + 1, 0, none⟩) 2 [1, 1] w7 := by
    rw [← hw7]
    intro j hj
    match j, hj with
    | 0, _ => exact ⟨_, 0, rfl, by simp, by simp [go_sem], by decide, by decide⟩
    | 1, _ => exact ⟨_, 0, rfl, by simp, by simp [go_sem], by decide, by decide⟩
  have hs7 : w7.heap[w6.heap.size]? = some (.cells #[.int .u8 q0, .int .u8 q1, .int .u8 q2, .int .u8 q3, .int .u8 q4, .int .u8 q5, .int .u8 q6, .int .u8 q7, .int .u16 0, .int .u64 H, .int .u64 L, .slice sa ns cs] 32 (0, 0)) := by rw [← hw7]; exact lit_old rfl
  have hA7 : A13 w ap R ar cr w7 := by rw [← hw7]; exact (HA6.out.alloc _).alloc _
  have HA7 := Lib.hid hA7; have HZ7 := Lib.hid hz7; have HS7 := Lib.hid hs7
  rw [hw7]
  clear hw7 hA7 hz7 hs7 HA6
  refine (al_twice ap cp _ w7 HA7.out.ps HZ7.out).mono ?_
  rintro e w8 ⟨rfl, hB8⟩
  have HA8 := Lib.hid (HA7.out.below hB8)
  have HS8 := Lib.hid ((hB8.block _ (Array.getElem?_eq_some_iff.1 HS7.out).1).trans HS7.out)
  clear HA7 HZ7 HS7 hB8
  generalize w6.heap.size = S at *
  go_wp2_with fail
  obtain ⟨w9, hw9⟩ : ∃ u, (((w8.alloc (.cells #[.int .u8 0, .int .u8 0, .int .u8 0, .int .u8 0, .int .u8 0, .int .u8 0, .int .u8 0, .int .u8 0, .int .u16 0, .int .u64 0, .int .u64 0, .slice none 0 0] 32)).alloc (.cells #[.int .i64 0, .int .i64 1] 3)).alloc (.cells #[.int .i64 0] 3)).alloc (.cells #[.slice (some ⟨w8.heap.size + 1, 0, none⟩) 2 2, .slice (some ⟨w8.heap.size + 1 + 1, 0, none⟩) 1 1] 23) = u := ⟨_, rfl⟩
  have hz9 : ShAt w9 (some ⟨w8.heap.size + 1 + 1 + 1, 0, none⟩) 2 [[0, 1], [0]] := by
    rw [← hw9]
    refine ⟨rfl, w8.heap.size + 1 + 1 + 1, 0, fun k => if k = 0 then some ⟨w8.heap.size + 1, 0, none⟩ else some ⟨w8.heap.size + 1 + 1, 0, none⟩, fun k => if k = 0 then 2 else 1, fun k hk => ?_⟩
    match k, hk with
    | 0, _ =>
      refine ⟨rfl, by simp, by simp [go_sem], fun j hj => ?_, by simp⟩
      match j, hj with
      | 0, _ => exact ⟨_, 0, rfl, by simp, by simp [go_sem], by decide, by decide⟩
      | 1, _ => exact ⟨_, 0, rfl, by simp, by simp [go_sem], by decide, by decide⟩
    | 1, _ =>
      refine ⟨rfl, by simp, by simp [go_sem], fun j hj => ?_, by simp⟩
      match j, hj with
      | 0, _ => exact ⟨_, 0, rfl, by simp, by simp [go_sem], by decide, by decide⟩
  have hA9 : A13 w ap R ar cr w9 := by rw [← hw9]; exact (((HA8.out.alloc _).alloc _).alloc _).alloc _
  have h89 : Below w8.heap.size w8 w9 := by rw [← hw9]; exact ((((Below.refl _ w8).alloc (Nat.le_refl _) _).alloc (by simp) _).alloc (by simp; omega) _).alloc (by simp; omega) _
  have HA9 := Lib.hid hA9; have HZ9 := Lib.hid hz9
  have HS9 := Lib.hid ((h89.block _ (Array.getElem?_eq_some_iff.1 HS8.out).1).trans HS8.out)
  rw [hw9]
  clear hw9 hA9 hz9 h89 HA8 HS8
  refine (al_block ap cp _ 2 w9 HA9.out.ps HZ9.out).mono ?_
  rintro e w10 ⟨ra, rcc, rA, rN, rC, rfl, hRP, hB10⟩
  have HRP := Lib.hid hRP
  have HA10 := Lib.hid (HA9.out.below hB10)
  have HS10 := Lib.hid ((hB10.block _ (Array.getElem?_eq_some_iff.1 HS9.out).1).trans HS9.out)
  clear HA9 HZ9 HS9 hRP hB10
  go_wp2_with fail
  refine (al_numbers ra rcc rA rN rC w10 HRP.out).mono ?_
  rintro e w11 ⟨g, gc, nx, ny, rfl, hgc, _, hg2, hB11⟩
  have HG := Lib.hid (And.intro hgc hg2)
  have HA11 := Lib.hid (HA10.out.below hB11)
  have HS11 := Lib.hid ((hB11.block _ (Array.getElem?_eq_some_iff.1 HS10.out).1).trans HS10.out)
  clear HRP HA10 HS10 hgc hg2 hB11
  have r0 : w11.cell? ⟨R, 0, none⟩ = some (.int .u8 0) := by rw [cell_of_row w11 _ 0 _ _ _ HA11.out.rb]; rfl
  have r1 : w11.cell? ⟨R, 1, none⟩ = some (.int .u8 0) := by rw [cell_of_row w11 _ 1 _ _ _ HA11.out.rb]; rfl
  have r2 : w11.cell? ⟨R, 2, none⟩ = some (.int .u8 0) := by rw [cell_of_row w11 _ 2 _ _ _ HA11.out.rb]; rfl
  have r3 : w11.cell? ⟨R, 3, none⟩ = some (.int .u8 0) := by rw [cell_of_row w11 _ 3 _ _ _ HA11.out.rb]; rfl
  have r4 : w11.cell? ⟨R, 4, none⟩ = some (.int .u8 0) := by rw [cell_of_row w11 _ 4 _ _ _ HA11.out.rb]; rfl
  have r5 : w11.cell? ⟨R, 5, none⟩ = some (.int .u8 0) := by rw [cell_of_row w11 _ 5 _ _ _ HA11.out.rb]; rfl
  have r6 : w11.cell? ⟨R, 6, none⟩ = some (.int .u8 0) := by rw [cell_of_row w11 _ 6 _ _ _ HA11.out.rb]; rfl
  have r7 : w11.cell? ⟨R, 7, none⟩ = some (.int .u8 3) := by rw [cell_of_row w11 _ 7 _ _ _ HA11.out.rb]; rfl
  have r8 : w11.cell? ⟨R, 8, none⟩ = some (.int .u16 65535) := by rw [cell_of_row w11 _ 8 _ _ _ HA11.out.rb]; rfl
  have r9 : w11.cell? ⟨R, 9, none⟩ = some (.int .u64 13835058055282163712) := by rw [cell_of_row w11 _ 9 _ _ _ HA11.out.rb]; rfl
  have r10 : w11.cell? ⟨R, 10, none⟩ = some (.int .u64 0) := by rw [cell_of_row w11 _ 10 _ _ _ HA11.out.rb]; rfl
  have r11 : w11.cell? ⟨R, 11, none⟩ = some (.slice ar 2 cr) := by rw [cell_of_row w11 _ 11 _ _ _ HA11.out.rb]; rfl
  go_wp2_with fail
  refine (al_bytes ar cr w11 HA11.out.bd).mono ?_
  rintro e w12 ⟨xa, xcc, rfl, hB12⟩
  have HA12 := Lib.hid (HA11.out.below hB12)
  have HS12 := Lib.hid ((hB12.block _ (Array.getElem?_eq_some_iff.1 HS11.out).1).trans HS11.out)
  have HG12 := Lib.hid (And.intro ((hB12.cell (p := ⟨g, 0, none⟩) HG.out.2).trans HG.out.1) (Nat.lt_of_lt_of_le HG.out.2 hB12.size))
  clear HA11 HS11 HG hB12 r0 r1 r2 r3 r4 r5 r6 r7 r8 r9 r10 r11
  obtain ⟨w13, hw13⟩ : ∃ u, w12.alloc (.cells #[.int .u8 0, .int .u8 0, .int .u8 0, .int .u8 0, .int .u8 0, .int .u8 0, .int .u8 0, .int .u8 3, .slice xa 2 xcc] 57) = u := ⟨_, rfl⟩
  have h1213 : Below w12.heap.size w12 w13 := by rw [← hw13]; exact (Below.refl _ w12).alloc (Nat.le_refl _) _
  have hx13 : w13.heap[w12.heap.size]? = some (.cells #[.int .u8 0, .int .u8 0, .int .u8 0, .int .u8 0, .int .u8 0, .int .u8 0, .int .u8 0, .int .u8 3, .slice xa 2 xcc] 57 (0, 0)) := by rw [← hw13]; exact lit_new rfl
  have HX13 := Lib.hid hx13
  have HA13 := Lib.hid (HA12.out.below h1213)
  have HS13 := Lib.hid ((h1213.block _ (Array.getElem?_eq_some_iff.1 HS12.out).1).trans HS12.out)
  have HG13 := Lib.hid (And.intro ((h1213.cell (p := ⟨g, 0, none⟩) HG12.out.2).trans HG12.out.1) (Nat.lt_of_lt_of_le HG12.out.2 h1213.size))
  clear hx13 h1213 HA12 HS12 HG12
  have hbuild : ∀ W, (Instr.build 28 #[(7, .int .u8 3)]).run Try.prog W = .ok (.agg #[.int .u8 0, .int .u8 0, .int .u8 0, .int .u8 0, .int .u8 0, .int .u8 0, .int .u8 0, .int .u8 3]) W := fun W => run_build W _ _ _ (by kernel_rfl)
  have heq := fun W => eq8 0 0 0 0 0 0 0 3 0 0 0 0 0 0 0 3 W
  rw [decide_eq_true rfl] at heq
  have HQ := Lib.hid (show Q13 w ap R ar cr S q0 q1 q2 q3 q4 q5 q6 q7 H L sa ns cs w12.heap.size xa xcc g nx ny w13 from ⟨HA13.out, HS13.out, HX13.out, HG13.out⟩)
  have HY : Hid (∀ W, Q13 w ap R ar cr S q0 q1 q2 q3 q4 q5 q6 q7 H L sa ns cs w12.heap.size xa xcc g nx ny W → Calls Try.prog 26 #[.agg #[.int .u8 0, .int .u8 0, .int .u8 0, .int .u8 0, .int .u8 0, .int .u8 0, .int .u8 0, .int .u8 3, .int .u16 65535, .int .u64 13835058055282163712, .int .u64 0, .slice ar 2 cr], .slice ap 2 cp] W (ValB (.bool true) W)) := Lib.hid fun W h => al_holds ar cr ap 2 cp _ true W h.a.bd h.a.ps (by omega) holds_yes
  have HN : Hid (∀ W, Q13 w ap R ar cr S q0 q1 q2 q3 q4 q5 q6 q7 H L sa ns cs w12.heap.size xa xcc g nx ny W → Calls Try.prog 26 #[.agg #[.int .u8 0, .int .u8 0, .int .u8 0, .int .u8 0, .int .u8 0, .int .u8 0, .int .u8 0, .int .u8 3, .int .u16 65535, .int .u64 13835058055282163712, .int .u64 0, .slice ar 2 cr], .slice ap 1 cp] W (ValB (.bool false) W)) := Lib.hid fun W h => al_holds ar cr ap 1 cp _ false W h.a.bd (h.a.ps.take 1 (by omega)) (by omega) holds_no
  have hS13 := HQ.out.all
  have hcp := HC2.out
  have hcp1 : (1 : Int) ≤ (cp : Int) := by omega
  have hap := HAP.out
  subst hap
  have HW13 := Lib.hid hw13
  clear hw13 HS13 HG13 HX13 HA13
  go_upto_region 9 with (fail)
  rw [HW13.out]
  clear HW13
  simp only [List.append_eq, List.cons_append, List.nil_append]
  go_region_held3 (fun W => W.cell? ⟨R, 0, none⟩ = some (.int .u8 0) ∧ W.cell? ⟨R, 1, none⟩ = some (.int .u8 0) ∧ W.cell? ⟨R, 2, none⟩ = some (.int .u8 0) ∧ W.cell? ⟨R, 3, none⟩ = some (.int .u8 0) ∧ W.cell? ⟨R, 4, none⟩ = some (.int .u8 0) ∧ W.cell? ⟨R, 5, none⟩ = some (.int .u8 0) ∧ W.cell? ⟨R, 6, none⟩ = some (.int .u8 0) ∧ W.cell? ⟨R, 7, none⟩ = some (.int .u8 3) ∧ W.cell? ⟨R, 8, none⟩ = some (.int .u16 65535) ∧ W.cell? ⟨R, 9, none⟩ = some (.int .u64 13835058055282163712) ∧ W.cell? ⟨R, 10, none⟩ = some (.int .u64 0) ∧ W.cell? ⟨R, 11, none⟩ = some (.slice ar 2 cr) ∧ W.cell? ⟨S, 8, none⟩ = some (.int .u16 0) ∧ W.cell? ⟨w12.heap.size, 0, none⟩ = some (.int .u8 0) ∧ W.cell? ⟨w12.heap.size, 1, none⟩ = some (.int .u8 0) ∧ W.cell? ⟨w12.heap.size, 2, none⟩ = some (.int .u8 0) ∧ W.cell? ⟨w12.heap.size, 3, none⟩ = some (.int .u8 0) ∧ W.cell? ⟨w12.heap.size, 4, none⟩ = some (.int .u8 0) ∧ W.cell? ⟨w12.heap.size, 5, none⟩ = some (.int .u8 0) ∧ W.cell? ⟨w12.heap.size, 6, none⟩ = some (.int .u8 0) ∧ W.cell? ⟨w12.heap.size, 7, none⟩ = some (.int .u8 3) ∧ W.cell? ⟨w12.heap.size, 8, none⟩ = some (.slice xa 2 xcc) ∧ W.cell? ⟨g, 0, none⟩ = some (.slice nx 2 ny) ∧ (convert 26 9 (.slice ar 2 cr)).run Try.prog W = .ok (.string ⟨#[3, 98]⟩) W ∧ Q13 w (some ⟨pb, po, none⟩) R ar cr S q0 q1 q2 q3 q4 q5 q6 q7 H L sa ns cs w12.heap.size xa xcc g nx ny W)
    (first | with_reducible assumption | with_reducible exact Q13.drews (by with_reducible assumption) | with_reducible exact Q13.belows (by with_reducible assumption) (by with_reducible assumption))
    (first
      | (go_at_call 26; (with_reducible refine (HY.out _ (Q13.of (by assumption))).mono ?_); rintro e w14 ⟨rfl, hB14⟩)
      | (go_at_call 26; (with_reducible refine (HN.out _ (Q13.of (by assumption))).mono ?_); rintro e w15 ⟨rfl, hB15⟩))
  all_goals (go_wp2; go_ret; exact ⟨rfl, (Q13.of (by assumption)).a.low⟩)
end Go.Proofs.Ytedhmoihlfjbdaa
