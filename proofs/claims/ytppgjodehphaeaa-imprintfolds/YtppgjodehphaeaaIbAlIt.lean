
/-
  The iterator of confluxlaw12.alive: x, x2, x.
-/
import Derived.Test.YtppgjodehphaeaaIbAdd
namespace Go.Proofs.Ytppgjodehphaeaa
open Go.RowKit Go.Shelf
set_option linter.unusedVariables false
attribute [local go_sem] Oper.semAt_some
def alPre (P Q : Nat) (hx hy : Nat → Int) (a b : Option Addr) (n m c d : Nat) (W : World) : Prop :=
  (W.cell? ⟨P, 0, none⟩ = some (.int .u8 (hx 0)) ∧ W.cell? ⟨P, 1, none⟩ = some (.int .u8 (hx 1)) ∧ W.cell? ⟨P, 2, none⟩ = some (.int .u8 (hx 2)) ∧ W.cell? ⟨P, 3, none⟩ = some (.int .u8 (hx 3)) ∧ W.cell? ⟨P, 4, none⟩ = some (.int .u8 (hx 4)) ∧ W.cell? ⟨P, 5, none⟩ = some (.int .u8 (hx 5)) ∧ W.cell? ⟨P, 6, none⟩ = some (.int .u8 (hx 6)) ∧ W.cell? ⟨P, 7, none⟩ = some (.int .u8 (hx 7)) ∧ W.cell? ⟨P, 8, none⟩ = some (.slice a n c)) ∧ (W.cell? ⟨Q, 0, none⟩ = some (.int .u8 (hy 0)) ∧ W.cell? ⟨Q, 1, none⟩ = some (.int .u8 (hy 1)) ∧ W.cell? ⟨Q, 2, none⟩ = some (.int .u8 (hy 2)) ∧ W.cell? ⟨Q, 3, none⟩ = some (.int .u8 (hy 3)) ∧ W.cell? ⟨Q, 4, none⟩ = some (.int .u8 (hy 4)) ∧ W.cell? ⟨Q, 5, none⟩ = some (.int .u8 (hy 5)) ∧ W.cell? ⟨Q, 6, none⟩ = some (.int .u8 (hy 6)) ∧ W.cell? ⟨Q, 7, none⟩ = some (.int .u8 (hy 7)) ∧ W.cell? ⟨Q, 8, none⟩ = some (.slice b m d))
def alRel (hx hy : Nat → Int) (a b : Option Addr) (n m c d : Nat) (k : Nat) (v : Array Value) (_ _ : World) : Prop :=
  v = #[.agg #[.int .u8 (if k = 1 then hy 0 else hx 0), .int .u8 (if k = 1 then hy 1 else hx 1), .int .u8 (if k = 1 then hy 2 else hx 2), .int .u8 (if k = 1 then hy 3 else hx 3), .int .u8 (if k = 1 then hy 4 else hx 4), .int .u8 (if k = 1 then hy 5 else hx 5), .int .u8 (if k = 1 then hy 6 else hx 6), .int .u8 (if k = 1 then hy 7 else hx 7), .slice (if k = 1 then b else a) (if k = 1 then m else n) (if k = 1 then d else c)]]
set_option maxHeartbeats 1000000 in
set_option maxRecDepth 100000 in
theorem al_rel (nn : Nat) (hn : 1 ≤ nn) (P Q : Nat) (hx hy : Nat → Int) (a b : Option Addr) (n m c d : Nat) :
    SeqRel Fence.wide nn Try.prog 27 #[.pointer (some ⟨P, 0, none⟩), .pointer (some ⟨Q, 0, none⟩)] (alRel hx hy a b n m c d) 3 0 (alPre P Q hx hy a b n m c d) := by
  rintro l J Jx W hP hJ hJx hY h0
  obtain ⟨⟨p0, p1, p2, p3, p4, p5, p6, p7, p8⟩, q0, q1, q2, q3, q4, q5, q6, q7, q8⟩ := hP 0 W h0
  have HY := Lib.hid hY; clear hY
  have HJ := Lib.hid hJ; have HJx := Lib.hid hJx; have HP := Lib.hid hP; clear hJ hJx hP
  refine callsIn_of_wp Try.func27 rfl trivial ?_ rfl
  simp only [Try.ntmps27, List.size_toArray, List.length_cons, List.length_nil, Nat.reduceAdd, Nat.reduceSub, Array.replicate_succ, Array.replicate_zero, List.push_toArray, List.append_toArray, List.nil_append, List.cons_append]
  obtain ⟨fn, tmps, assign, body, hy0, hR⟩ := HY.out 0 #[.agg #[.int .u8 (hx 0), .int .u8 (hx 1), .int .u8 (hx 2), .int .u8 (hx 3), .int .u8 (hx 4), .int .u8 (hx 5), .int .u8 (hx 6), .int .u8 (hx 7), .slice a n c]] W W (by omega) h0 (grown_refl W none) rfl (by omega)
  have HR := Lib.hid hR; clear hR
  gi_wp2
  refine HR.out.mono ?_
  clear hy0 HR p0 p1 p2 p3 p4 p5 p6 p7 p8 q0 q1 q2 q3 q4 q5 q6 q7 q8
  rintro e W2 (⟨rfl, hJ2, hs2, hk2⟩ | ⟨rfl, hJx2⟩)
  · clear hk2
    obtain ⟨⟨p0, p1, p2, p3, p4, p5, p6, p7, p8⟩, q0, q1, q2, q3, q4, q5, q6, q7, q8⟩ := HP.out 1 W2 hJ2
    obtain ⟨fn2, tmps2, assign2, body2, hy1, hR⟩ := HY.out 1 #[.agg #[.int .u8 (hy 0), .int .u8 (hy 1), .int .u8 (hy 2), .int .u8 (hy 3), .int .u8 (hy 4), .int .u8 (hy 5), .int .u8 (hy 6), .int .u8 (hy 7), .slice b m d]] W2 W2 (by omega) hJ2 (grown_refl W2 none) rfl (by omega)
    have HR := Lib.hid hR; clear hR
    gi_wp2
    refine HR.out.mono ?_
    clear hy1 HR p0 p1 p2 p3 p4 p5 p6 p7 p8 q0 q1 q2 q3 q4 q5 q6 q7 q8 hJ2
    rintro e W3 (⟨rfl, hJ3, hs3, hk3⟩ | ⟨rfl, hJx2⟩)
    · clear hk3
      obtain ⟨⟨p0, p1, p2, p3, p4, p5, p6, p7, p8⟩, q0, q1, q2, q3, q4, q5, q6, q7, q8⟩ := HP.out 2 W3 hJ3
      obtain ⟨fn3, tmps3, assign3, body3, hy2, hR⟩ := HY.out 2 #[.agg #[.int .u8 (hx 0), .int .u8 (hx 1), .int .u8 (hx 2), .int .u8 (hx 3), .int .u8 (hx 4), .int .u8 (hx 5), .int .u8 (hx 6), .int .u8 (hx 7), .slice a n c]] W3 W3 (by omega) hJ3 (grown_refl W3 none) rfl (by omega)
      have HR := Lib.hid hR; clear hR
      gi_wp2
      refine HR.out.mono ?_
      clear hy2 HR p0 p1 p2 p3 p4 p5 p6 p7 p8 q0 q1 q2 q3 q4 q5 q6 q7 q8 hJ3
      rintro e W4 (⟨rfl, hJ4, hs4, hk4⟩ | ⟨rfl, hJx2⟩)
      · clear hk4
        gi_wp2
        go_end0
        exact ⟨⟨_, rfl⟩, .inl hJ4⟩
      · gi_wp2
        go_end0
        exact ⟨⟨_, rfl⟩, .inr ⟨3, by omega, hJx2⟩⟩
    · gi_wp2
      refine ⟨by simp, ?_⟩
      gi_wp2
      go_end0
      exact ⟨⟨_, rfl⟩, .inr ⟨2, by omega, hJx2⟩⟩
  · gi_wp2
    refine ⟨by simp, ?_⟩
    gi_wp2
    go_end0
    exact ⟨⟨_, rfl⟩, .inr ⟨1, by omega, hJx2⟩⟩
end Go.Proofs.Ytppgjodehphaeaa
