
/-
  wire.attempt, Part and Read of conflux/api.Packet (a struct).
-/
import Derived.Test.YtedhmoihlfjbdaaWireAttS0
namespace Go.Proofs.Ytedhmoihlfjbdaa
open Go.RowKit Go.Shelf
set_option linter.unusedVariables false
def attW_pk (w : World) (U : Nat) (a : Option Addr) (n c : Nat) : World := (((w.alloc (.cells #[.pointer (some ⟨U, 0, none⟩)] 222)).alloc (.cells #[.bool false, .int .i64 0, .int .u16 0, .int .u32 0, .int .u32 0, .slice none 0 0, .bool false, .int .u16 0, .slice none 0 0, .slice none 0 0, .slice none 0 0] 71)).alloc (.cells #[.slice a n c, .pointer (some ⟨U, 0, none⟩)] 227)).alloc (.cells #[.bool false, .int .i64 0, .int .u16 0, .int .u32 0, .int .u32 0, .slice none 0 0, .bool false, .int .u16 0, .slice none 0 0, .slice none 0 0, .slice none 0 0] 71)
theorem attW_pk_size (w : World) (U : Nat) (a : Option Addr) (n c : Nat) : (attW_pk w U a n c).heap.size = w.heap.size + 4 := by simp [attW_pk]
theorem attW_pk_below (w : World) (U : Nat) (a : Option Addr) (n c : Nat) : Below w.heap.size w (attW_pk w U a n c) :=
  ((((Below.refl _ w).alloc (Nat.le_refl _) _).alloc (by simp) _).alloc (by simp <;> omega) _).alloc (by simp <;> omega) _
theorem attW_pk_rd (w : World) (U : Nat) (a : Option Addr) (n c : Nat) (l : List Int) (hu : w.heap[U]? = some (.cells #[.bool false, .int .i64 0] 219 (0, 0))) (hb : BAt w a n l) (hc : n ≤ c) (hne : 0 < n → ∀ x, a = some x → x.block ≠ U) : RdAt (attW_pk w U a n c) (w.heap.size + 2) U a n c l := by
  have hlt := (Array.getElem?_eq_some_iff.1 hu).1
  have hB := attW_pk_below w U a n c
  exact ⟨lit_old (by simp), (hB.block U hlt).trans hu, by omega, hb.below hB, hc, fun h0 x hx => ⟨by have := hb.lt h0 x hx; omega, hne h0 x hx⟩⟩
theorem attW_pk_rows (w : World) (U : Nat) (a : Option Addr) (n c : Nat) : (attW_pk w U a n c).heap[w.heap.size]? = some (.cells #[.pointer (some ⟨U, 0, none⟩)] 222 (0, 0)) ∧ (attW_pk w U a n c).heap[w.heap.size + 1]? = some (.cells #[.bool false, .int .i64 0, .int .u16 0, .int .u32 0, .int .u32 0, .slice none 0 0, .bool false, .int .u16 0, .slice none 0 0, .slice none 0 0, .slice none 0 0] 71 (0, 0)) ∧ (attW_pk w U a n c).heap[w.heap.size + 1 + 1 + 1]? = some (.cells #[.bool false, .int .i64 0, .int .u16 0, .int .u32 0, .int .u32 0, .slice none 0 0, .bool false, .int .u16 0, .slice none 0 0, .slice none 0 0, .slice none 0 0] 71 (0, 0)) := by
  refine ⟨?_, ?_, lit_new (by simp)⟩
  · exact (heap_alloc_old _ _ (by simp <;> omega)).trans ((heap_alloc_old _ _ (by simp <;> omega)).trans (lit_old rfl))
  · exact (heap_alloc_old _ _ (by simp <;> omega)).trans (lit_old (by simp))
theorem catch_idle_pk (X U : Nat) (w : World) (hx : w.cell? ⟨X, 0, none⟩ = some (.pointer (some ⟨U, 0, none⟩))) (hu0 : w.cell? ⟨U, 0, none⟩ = some (.bool false)) (hf : w.frozen? ⟨U, 0, none⟩ = false) :
    CallsD Try.prog 160 #[.pointer (some ⟨X, 0, none⟩)] .returning w fun e u' w' => e = .returned (.tuple #[]) ∧ u' = .returning ∧ w' = w.setCell ⟨U, 0, none⟩ (.bool true) := by
  refine callsD_of_wpS Try.func160 rfl fun c₀ cs hu => ?_
  apply wpS_seq
  refine wpS_of_wp ?_
  simp only [Try.ntmps160, List.size_toArray, List.length_cons, List.length_nil, Nat.reduceAdd, Nat.reduceSub, Array.replicate_succ, Array.replicate_zero, List.push_toArray, List.append_toArray, List.nil_append, List.cons_append]
  go_wp2
  have hni : ∀ w, (binOp .eql 20 .nilIface .nilIface).run Try.prog w = .ok (.bool true) w := fun w => by kernel_rfl
  show Code.wpS _ _ _ _ _ _
  apply wpS_seq
  apply wpS_region
  simp [wpOpsS, go_sem, recoverD, hu, Exit.thenS]
  refine wpS_of_wp ?_
  go_wp2
  cases c₀
  simp_all [bodyPostS, results, Try.results160]
set_option maxRecDepth 100000 in
theorem catch_fail_pk (X U : Nat) (w : World) (hx : w.cell? ⟨X, 0, none⟩ = some (.pointer (some ⟨U, 0, none⟩))) (hu0 : ∃ v, w.cell? ⟨U, 0, none⟩ = some v) (hf : w.frozen? ⟨U, 0, none⟩ = false) (hXU : X ≠ U) (hXl : X < w.heap.size) :
    CallsD Try.prog 160 #[.pointer (some ⟨X, 0, none⟩)] (.panicking [{ v := failV U, recovered := false }]) w fun e u' w' => e = .returned (.tuple #[]) ∧ u' = .panicking [{ v := failV U, recovered := true }] ∧ w' = (w.setCell ⟨U, 0, none⟩ (.bool true)).alloc (.cells #[.pointer (some ⟨U, 0, none⟩)] 233) := by
  obtain ⟨v0, hu0⟩ := hu0
  refine callsD_of_wpS Try.func160 rfl fun c₀ cs hu => ?_
  apply wpS_seq
  refine wpS_of_wp ?_
  simp only [Try.ntmps160, List.size_toArray, List.length_cons, List.length_nil, Nat.reduceAdd, Nat.reduceSub, Array.replicate_succ, Array.replicate_zero, List.push_toArray, List.append_toArray, List.nil_append, List.cons_append]
  go_wp2
  show Code.wpS _ _ _ _ _ _
  apply wpS_seq
  apply wpS_region
  simp [wpOpsS, go_sem, recoverD, hu, Exit.thenS]
  refine wpS_of_wp ?_
  unfold failV
  have hni : ∀ w, (binOp .eql 20 (.iface 233 (.agg #[.pointer (some ⟨U, 0, none⟩)])) .nilIface).run Try.prog w = .ok (.bool false) w := fun w => by kernel_rfl
  have hta : ∀ w, (Instr.typeAssert (.iface 233 (.agg #[.pointer (some ⟨U, 0, none⟩)])) 20 233 true).run Try.prog w = .ok (.tuple #[.agg #[.pointer (some ⟨U, 0, none⟩)], .bool true]) w := fun w => by kernel_rfl
  have hx2 : ∀ v o, ((w.setCell ⟨U, 0, none⟩ v).alloc o).cell? ⟨X, 0, none⟩ = some (.pointer (some ⟨U, 0, none⟩)) := fun v o => (World.cell?_of_block (w := w.setCell ⟨U, 0, none⟩ v) (a := ⟨X, 0, none⟩) (Below.heap_alloc _ _ _ (by simpa using hXl))).trans ((World.cell?_of_block (w := w) (a := ⟨X, 0, none⟩) (Below.heap_setCell w ⟨U, 0, none⟩ v X hXU)).trans hx)
  have hnq := fun w => neq_run w U
  go_wp2
  cases c₀
  simp_all [bodyPostS, results, Try.results160]
set_option maxHeartbeats 2000000 in
set_option maxRecDepth 100000 in
theorem attempt_ok_pk (U : Nat) (a : Option Addr) (n c : Nat) (g : Nat) (cap : Array Value) (n' k : Nat) (l' : List Int) (Q : Value → World → Prop) (w : World)
    (hu : w.heap[U]? = some (.cells #[.bool false, .int .i64 0] 219 (0, 0))) (hn : n ≤ 9223372036854775807) (hk : n = n' + k)
    (hnil : ∀ w, (binOp .neq 138 (.func (.func g) #[] cap) .nilFunc).run Try.prog w = .ok (.bool true) w)
    (hent : ∀ args w, (callFunc g args).run Try.prog w = .ok (.enter g args) w)
    (hst : Steady (w.heap.size + 4) Q) (hag : ∀ v W, Q v W → ∃ x0 x1 x2 x3 x4 a5 n5 c5 x6 x7 a8 n8 c8 a9 n9 c9 a10 n10 c10, v = .agg #[.bool x0, .int .i64 x1, .int .u16 x2, .int .u32 x3, .int .u32 x4, .slice a5 n5 c5, .bool x6, .int .u16 x7, .slice a8 n8 c8, .slice a9 n9 c9, .slice a10 n10 c10])
    (hp : Calls Try.prog g (#[.pointer (some ⟨w.heap.size + 2, 0, none⟩)] ++ cap) (attW_pk w U a n c) (ParseOk (w.heap.size + 2) U n' l' Q (attW_pk w U a n c))) :
    Calls Try.prog 144 #[.pointer (some ⟨U, 0, none⟩), .slice a n c, .func (.func g) #[] cap] w (AttS U k Q w) := by
  have hmf : ∀ (fn : Fn) (first cap : Array Value) (w : World), (Instr.makeFunc fn first cap).run Try.prog w = .ok (.func fn first cap) w := fun _ _ _ _ => rfl
  have hsub : IntKind.i64.wrap ((n : Int) - (n' : Int)) = (k : Int) := by rw [IntKind.wrap_i64]; omega
  have HP := Lib.hid hp; have HU := Lib.hid hu; have HST := Lib.hid hst; have HAG := Lib.hid hag; clear hp hu hk hst hag
  go_enter_defers Try.func144, Try.ntmps144
  go_wp2
  refine (HP.out).mono ?_
  rintro e w1 ⟨v, a', c', rfl, hR, hK, hQ⟩
  obtain ⟨x0, x1, x2, x3, x4, a5, n5, c5, x6, x7, a8, n8, c8, a9, n9, c9, a10, n10, c10, rfl⟩ := HAG.out _ _ hQ
  have hlt := (Array.getElem?_eq_some_iff.1 HU.out).1
  have hzw := attW_pk_size w U a n c
  have hzk := hK.size
  have kb : ∀ j, j < w.heap.size + 4 → j ≠ w.heap.size + 2 → j ≠ U → w1.heap[j]? = (attW_pk w U a n c).heap[j]? := fun j h1 h2 h3 => hK.block j (by omega) h2 (by simpa using h3)
  obtain ⟨rw0, rw1, rw3⟩ := attW_pk_rows w U a n c
  have q0 := (kb w.heap.size (by omega) (by omega) (by omega)).trans rw0
  have q1 := (kb (w.heap.size + 1) (by omega) (by omega) (by omega)).trans rw1
  have q3 := (kb (w.heap.size + 1 + 1 + 1) (by omega) (by omega) (by omega)).trans rw3
  have r0 := hR.r0
  have HR := Lib.hid hR; have HK := Lib.hid hK; have HQ := Lib.hid hQ; have Q0 := Lib.hid q0; have Q1 := Lib.hid q1; have Q3 := Lib.hid q3; have HZW := Lib.hid hzw; have HZK := Lib.hid hzk; have KB := Lib.hid kb
  clear hR hK hQ HP rw0 rw1 rw3 q0 q1 hzw hzk kb
  have d0 : w1.cell? ⟨w.heap.size + 1 + 1 + 1, 0, none⟩ = some (.bool false) := by rw [cell_of_row w1 _ 0 _ _ _ q3]; rfl
  have d1 : w1.cell? ⟨w.heap.size + 1 + 1 + 1, 1, none⟩ = some (.int .i64 0) := by rw [cell_of_row w1 _ 1 _ _ _ q3]; rfl
  have d2 : w1.cell? ⟨w.heap.size + 1 + 1 + 1, 2, none⟩ = some (.int .u16 0) := by rw [cell_of_row w1 _ 2 _ _ _ q3]; rfl
  have d3 : w1.cell? ⟨w.heap.size + 1 + 1 + 1, 3, none⟩ = some (.int .u32 0) := by rw [cell_of_row w1 _ 3 _ _ _ q3]; rfl
  have d4 : w1.cell? ⟨w.heap.size + 1 + 1 + 1, 4, none⟩ = some (.int .u32 0) := by rw [cell_of_row w1 _ 4 _ _ _ q3]; rfl
  have d5 : w1.cell? ⟨w.heap.size + 1 + 1 + 1, 5, none⟩ = some (.slice none 0 0) := by rw [cell_of_row w1 _ 5 _ _ _ q3]; rfl
  have d6 : w1.cell? ⟨w.heap.size + 1 + 1 + 1, 6, none⟩ = some (.bool false) := by rw [cell_of_row w1 _ 6 _ _ _ q3]; rfl
  have d7 : w1.cell? ⟨w.heap.size + 1 + 1 + 1, 7, none⟩ = some (.int .u16 0) := by rw [cell_of_row w1 _ 7 _ _ _ q3]; rfl
  have d8 : w1.cell? ⟨w.heap.size + 1 + 1 + 1, 8, none⟩ = some (.slice none 0 0) := by rw [cell_of_row w1 _ 8 _ _ _ q3]; rfl
  have d9 : w1.cell? ⟨w.heap.size + 1 + 1 + 1, 9, none⟩ = some (.slice none 0 0) := by rw [cell_of_row w1 _ 9 _ _ _ q3]; rfl
  have d10 : w1.cell? ⟨w.heap.size + 1 + 1 + 1, 10, none⟩ = some (.slice none 0 0) := by rw [cell_of_row w1 _ 10 _ _ _ q3]; rfl
  have df : ∀ o, w1.frozen? ⟨w.heap.size + 1 + 1 + 1, o, none⟩ = false := fun o => frozen_of_row w1 _ o _ _ q3
  clear q3
  go_wp2_with fail
  obtain ⟨w2, hw2⟩ : ∃ w2, putL w1 (w.heap.size + 1 + 1 + 1) 0 [.bool x0, .int .i64 x1, .int .u16 x2, .int .u32 x3, .int .u32 x4, .slice a5 n5 c5, .bool x6, .int .u16 x7, .slice a8 n8 c8, .slice a9 n9 c9, .slice a10 n10 c10] = w2 := ⟨_, rfl⟩
  have P2 := Lib.hid (show Put w1 w2 (w.heap.size + 1 + 1 + 1) #[.bool x0, .int .i64 x1, .int .u16 x2, .int .u32 x3, .int .u32 x4, .slice a5 n5 c5, .bool x6, .int .u16 x7, .slice a8 n8 c8, .slice a9 n9 c9, .slice a10 n10 c10] 71 by rw [← hw2]; exact putL_is (us := [.bool false, .int .i64 0, .int .u16 0, .int .u32 0, .int .u32 0, .slice none 0 0, .bool false, .int .u16 0, .slice none 0 0, .slice none 0 0, .slice none 0 0]) Q3.out rfl)
  simp only [putL, Nat.zero_add, Nat.reduceAdd] at hw2
  rw [hw2]
  clear hw2 r0
  clear d0 d1 d2 d3 d4 d5 d6 d7 d8 d9 d10 df
  have g2 := P2.out.grown
  have G1 : w2.heap[w.heap.size + 1]? = some (.cells #[.bool false, .int .i64 0, .int .u16 0, .int .u32 0, .int .u32 0, .slice none 0 0, .bool false, .int .u16 0, .slice none 0 0, .slice none 0 0, .slice none 0 0] 71 (0, 0)) := (g2.block (w.heap.size + 1) (by have := HZK.out; have := HZW.out; omega) (by simp <;> omega)).trans Q1.out
  have r0 : w2.cell? ⟨w.heap.size + 2, 0, none⟩ = some (.slice a' n' c') := by
    have := g2.block (w.heap.size + 2) HR.out.ltR (by simp)
    rw [cell_of_row w2 _ 0 _ _ _ (this.trans HR.out.rd)]; rfl
  have G3 := P2.out.row
  have d0 : w2.cell? ⟨w.heap.size + 1 + 1 + 1, 0, none⟩ = some (.bool x0) := by rw [cell_of_row w2 _ 0 _ _ _ G3]; rfl
  have d1 : w2.cell? ⟨w.heap.size + 1 + 1 + 1, 1, none⟩ = some (.int .i64 x1) := by rw [cell_of_row w2 _ 1 _ _ _ G3]; rfl
  have d2 : w2.cell? ⟨w.heap.size + 1 + 1 + 1, 2, none⟩ = some (.int .u16 x2) := by rw [cell_of_row w2 _ 2 _ _ _ G3]; rfl
  have d3 : w2.cell? ⟨w.heap.size + 1 + 1 + 1, 3, none⟩ = some (.int .u32 x3) := by rw [cell_of_row w2 _ 3 _ _ _ G3]; rfl
  have d4 : w2.cell? ⟨w.heap.size + 1 + 1 + 1, 4, none⟩ = some (.int .u32 x4) := by rw [cell_of_row w2 _ 4 _ _ _ G3]; rfl
  have d5 : w2.cell? ⟨w.heap.size + 1 + 1 + 1, 5, none⟩ = some (.slice a5 n5 c5) := by rw [cell_of_row w2 _ 5 _ _ _ G3]; rfl
  have d6 : w2.cell? ⟨w.heap.size + 1 + 1 + 1, 6, none⟩ = some (.bool x6) := by rw [cell_of_row w2 _ 6 _ _ _ G3]; rfl
  have d7 : w2.cell? ⟨w.heap.size + 1 + 1 + 1, 7, none⟩ = some (.int .u16 x7) := by rw [cell_of_row w2 _ 7 _ _ _ G3]; rfl
  have d8 : w2.cell? ⟨w.heap.size + 1 + 1 + 1, 8, none⟩ = some (.slice a8 n8 c8) := by rw [cell_of_row w2 _ 8 _ _ _ G3]; rfl
  have d9 : w2.cell? ⟨w.heap.size + 1 + 1 + 1, 9, none⟩ = some (.slice a9 n9 c9) := by rw [cell_of_row w2 _ 9 _ _ _ G3]; rfl
  have d10 : w2.cell? ⟨w.heap.size + 1 + 1 + 1, 10, none⟩ = some (.slice a10 n10 c10) := by rw [cell_of_row w2 _ 10 _ _ _ G3]; rfl
  have df : ∀ o, w2.frozen? ⟨w.heap.size + 1 + 1 + 1, o, none⟩ = false := fun o => frozen_of_row w2 _ o _ _ G3
  have y0 : w2.cell? ⟨w.heap.size + 1, 0, none⟩ = some (.bool false) := by rw [cell_of_row w2 _ 0 _ _ _ G1]; rfl
  have y1 : w2.cell? ⟨w.heap.size + 1, 1, none⟩ = some (.int .i64 0) := by rw [cell_of_row w2 _ 1 _ _ _ G1]; rfl
  have y2 : w2.cell? ⟨w.heap.size + 1, 2, none⟩ = some (.int .u16 0) := by rw [cell_of_row w2 _ 2 _ _ _ G1]; rfl
  have y3 : w2.cell? ⟨w.heap.size + 1, 3, none⟩ = some (.int .u32 0) := by rw [cell_of_row w2 _ 3 _ _ _ G1]; rfl
  have y4 : w2.cell? ⟨w.heap.size + 1, 4, none⟩ = some (.int .u32 0) := by rw [cell_of_row w2 _ 4 _ _ _ G1]; rfl
  have y5 : w2.cell? ⟨w.heap.size + 1, 5, none⟩ = some (.slice none 0 0) := by rw [cell_of_row w2 _ 5 _ _ _ G1]; rfl
  have y6 : w2.cell? ⟨w.heap.size + 1, 6, none⟩ = some (.bool false) := by rw [cell_of_row w2 _ 6 _ _ _ G1]; rfl
  have y7 : w2.cell? ⟨w.heap.size + 1, 7, none⟩ = some (.int .u16 0) := by rw [cell_of_row w2 _ 7 _ _ _ G1]; rfl
  have y8 : w2.cell? ⟨w.heap.size + 1, 8, none⟩ = some (.slice none 0 0) := by rw [cell_of_row w2 _ 8 _ _ _ G1]; rfl
  have y9 : w2.cell? ⟨w.heap.size + 1, 9, none⟩ = some (.slice none 0 0) := by rw [cell_of_row w2 _ 9 _ _ _ G1]; rfl
  have y10 : w2.cell? ⟨w.heap.size + 1, 10, none⟩ = some (.slice none 0 0) := by rw [cell_of_row w2 _ 10 _ _ _ G1]; rfl
  have yf : ∀ o, w2.frozen? ⟨w.heap.size + 1, o, none⟩ = false := fun o => frozen_of_row w2 _ o _ _ G1
  have HG1 := Lib.hid G1; clear G1 G3 g2
  have hcur : (w2.cell? ⟨w.heap.size + 1 + 1 + 1, 0, none⟩ = some (.bool x0) ∧ w2.cell? ⟨w.heap.size + 1 + 1 + 1, 1, none⟩ = some (.int .i64 x1) ∧ w2.cell? ⟨w.heap.size + 1 + 1 + 1, 2, none⟩ = some (.int .u16 x2) ∧ w2.cell? ⟨w.heap.size + 1 + 1 + 1, 3, none⟩ = some (.int .u32 x3) ∧ w2.cell? ⟨w.heap.size + 1 + 1 + 1, 4, none⟩ = some (.int .u32 x4) ∧ w2.cell? ⟨w.heap.size + 1 + 1 + 1, 5, none⟩ = some (.slice a5 n5 c5) ∧ w2.cell? ⟨w.heap.size + 1 + 1 + 1, 6, none⟩ = some (.bool x6) ∧ w2.cell? ⟨w.heap.size + 1 + 1 + 1, 7, none⟩ = some (.int .u16 x7) ∧ w2.cell? ⟨w.heap.size + 1 + 1 + 1, 8, none⟩ = some (.slice a8 n8 c8) ∧ w2.cell? ⟨w.heap.size + 1 + 1 + 1, 9, none⟩ = some (.slice a9 n9 c9) ∧ w2.cell? ⟨w.heap.size + 1 + 1 + 1, 10, none⟩ = some (.slice a10 n10 c10)) ∧ w2.cell? ⟨w.heap.size + 1 + 1, 0, none⟩ = some (.slice a' n' c') := by
    refine ⟨?_, r0⟩
    repeat' apply And.intro
    all_goals assumption
  have DR : Hid (∀ W : World, (W.cell? ⟨w.heap.size + 1 + 1 + 1, 0, none⟩ = some (.bool x0) ∧ W.cell? ⟨w.heap.size + 1 + 1 + 1, 1, none⟩ = some (.int .i64 x1) ∧ W.cell? ⟨w.heap.size + 1 + 1 + 1, 2, none⟩ = some (.int .u16 x2) ∧ W.cell? ⟨w.heap.size + 1 + 1 + 1, 3, none⟩ = some (.int .u32 x3) ∧ W.cell? ⟨w.heap.size + 1 + 1 + 1, 4, none⟩ = some (.int .u32 x4) ∧ W.cell? ⟨w.heap.size + 1 + 1 + 1, 5, none⟩ = some (.slice a5 n5 c5) ∧ W.cell? ⟨w.heap.size + 1 + 1 + 1, 6, none⟩ = some (.bool x6) ∧ W.cell? ⟨w.heap.size + 1 + 1 + 1, 7, none⟩ = some (.int .u16 x7) ∧ W.cell? ⟨w.heap.size + 1 + 1 + 1, 8, none⟩ = some (.slice a8 n8 c8) ∧ W.cell? ⟨w.heap.size + 1 + 1 + 1, 9, none⟩ = some (.slice a9 n9 c9) ∧ W.cell? ⟨w.heap.size + 1 + 1 + 1, 10, none⟩ = some (.slice a10 n10 c10)) ∧ W.cell? ⟨w.heap.size + 1 + 1, 0, none⟩ = some (.slice a' n' c') → (W.drew.cell? ⟨w.heap.size + 1 + 1 + 1, 0, none⟩ = some (.bool x0) ∧ W.drew.cell? ⟨w.heap.size + 1 + 1 + 1, 1, none⟩ = some (.int .i64 x1) ∧ W.drew.cell? ⟨w.heap.size + 1 + 1 + 1, 2, none⟩ = some (.int .u16 x2) ∧ W.drew.cell? ⟨w.heap.size + 1 + 1 + 1, 3, none⟩ = some (.int .u32 x3) ∧ W.drew.cell? ⟨w.heap.size + 1 + 1 + 1, 4, none⟩ = some (.int .u32 x4) ∧ W.drew.cell? ⟨w.heap.size + 1 + 1 + 1, 5, none⟩ = some (.slice a5 n5 c5) ∧ W.drew.cell? ⟨w.heap.size + 1 + 1 + 1, 6, none⟩ = some (.bool x6) ∧ W.drew.cell? ⟨w.heap.size + 1 + 1 + 1, 7, none⟩ = some (.int .u16 x7) ∧ W.drew.cell? ⟨w.heap.size + 1 + 1 + 1, 8, none⟩ = some (.slice a8 n8 c8) ∧ W.drew.cell? ⟨w.heap.size + 1 + 1 + 1, 9, none⟩ = some (.slice a9 n9 c9) ∧ W.drew.cell? ⟨w.heap.size + 1 + 1 + 1, 10, none⟩ = some (.slice a10 n10 c10)) ∧ W.drew.cell? ⟨w.heap.size + 1 + 1, 0, none⟩ = some (.slice a' n' c')) := Lib.hid fun W h => h
  clear d0 d1 d2 d3 d4 d5 d6 d7 d8 d9 d10 df
  have PS : Hid (∀ W : World, (W.cell? ⟨w.heap.size + 1 + 1 + 1, 0, none⟩ = some (.bool x0) ∧ W.cell? ⟨w.heap.size + 1 + 1 + 1, 1, none⟩ = some (.int .i64 x1) ∧ W.cell? ⟨w.heap.size + 1 + 1 + 1, 2, none⟩ = some (.int .u16 x2) ∧ W.cell? ⟨w.heap.size + 1 + 1 + 1, 3, none⟩ = some (.int .u32 x3) ∧ W.cell? ⟨w.heap.size + 1 + 1 + 1, 4, none⟩ = some (.int .u32 x4) ∧ W.cell? ⟨w.heap.size + 1 + 1 + 1, 5, none⟩ = some (.slice a5 n5 c5) ∧ W.cell? ⟨w.heap.size + 1 + 1 + 1, 6, none⟩ = some (.bool x6) ∧ W.cell? ⟨w.heap.size + 1 + 1 + 1, 7, none⟩ = some (.int .u16 x7) ∧ W.cell? ⟨w.heap.size + 1 + 1 + 1, 8, none⟩ = some (.slice a8 n8 c8) ∧ W.cell? ⟨w.heap.size + 1 + 1 + 1, 9, none⟩ = some (.slice a9 n9 c9) ∧ W.cell? ⟨w.heap.size + 1 + 1 + 1, 10, none⟩ = some (.slice a10 n10 c10)) ∧ W.cell? ⟨w.heap.size + 1 + 1, 0, none⟩ = some (.slice a' n' c') → ((((((((((((W.setCell ⟨w.heap.size + 1, 0, none⟩ (.bool x0)).setCell ⟨w.heap.size + 1, 1, none⟩ (.int .i64 x1)).setCell ⟨w.heap.size + 1, 2, none⟩ (.int .u16 x2)).setCell ⟨w.heap.size + 1, 3, none⟩ (.int .u32 x3)).setCell ⟨w.heap.size + 1, 4, none⟩ (.int .u32 x4)).setCell ⟨w.heap.size + 1, 5, none⟩ (.slice a5 n5 c5)).setCell ⟨w.heap.size + 1, 6, none⟩ (.bool x6)).setCell ⟨w.heap.size + 1, 7, none⟩ (.int .u16 x7)).setCell ⟨w.heap.size + 1, 8, none⟩ (.slice a8 n8 c8)).setCell ⟨w.heap.size + 1, 9, none⟩ (.slice a9 n9 c9)).setCell ⟨w.heap.size + 1, 10, none⟩ (.slice a10 n10 c10)).cell? ⟨w.heap.size + 1 + 1 + 1, 0, none⟩ = some (.bool x0) ∧ (((((((((((W.setCell ⟨w.heap.size + 1, 0, none⟩ (.bool x0)).setCell ⟨w.heap.size + 1, 1, none⟩ (.int .i64 x1)).setCell ⟨w.heap.size + 1, 2, none⟩ (.int .u16 x2)).setCell ⟨w.heap.size + 1, 3, none⟩ (.int .u32 x3)).setCell ⟨w.heap.size + 1, 4, none⟩ (.int .u32 x4)).setCell ⟨w.heap.size + 1, 5, none⟩ (.slice a5 n5 c5)).setCell ⟨w.heap.size + 1, 6, none⟩ (.bool x6)).setCell ⟨w.heap.size + 1, 7, none⟩ (.int .u16 x7)).setCell ⟨w.heap.size + 1, 8, none⟩ (.slice a8 n8 c8)).setCell ⟨w.heap.size + 1, 9, none⟩ (.slice a9 n9 c9)).setCell ⟨w.heap.size + 1, 10, none⟩ (.slice a10 n10 c10)).cell? ⟨w.heap.size + 1 + 1 + 1, 1, none⟩ = some (.int .i64 x1) ∧ (((((((((((W.setCell ⟨w.heap.size + 1, 0, none⟩ (.bool x0)).setCell ⟨w.heap.size + 1, 1, none⟩ (.int .i64 x1)).setCell ⟨w.heap.size + 1, 2, none⟩ (.int .u16 x2)).setCell ⟨w.heap.size + 1, 3, none⟩ (.int .u32 x3)).setCell ⟨w.heap.size + 1, 4, none⟩ (.int .u32 x4)).setCell ⟨w.heap.size + 1, 5, none⟩ (.slice a5 n5 c5)).setCell ⟨w.heap.size + 1, 6, none⟩ (.bool x6)).setCell ⟨w.heap.size + 1, 7, none⟩ (.int .u16 x7)).setCell ⟨w.heap.size + 1, 8, none⟩ (.slice a8 n8 c8)).setCell ⟨w.heap.size + 1, 9, none⟩ (.slice a9 n9 c9)).setCell ⟨w.heap.size + 1, 10, none⟩ (.slice a10 n10 c10)).cell? ⟨w.heap.size + 1 + 1 + 1, 2, none⟩ = some (.int .u16 x2) ∧ (((((((((((W.setCell ⟨w.heap.size + 1, 0, none⟩ (.bool x0)).setCell ⟨w.heap.size + 1, 1, none⟩ (.int .i64 x1)).setCell ⟨w.heap.size + 1, 2, none⟩ (.int .u16 x2)).setCell ⟨w.heap.size + 1, 3, none⟩ (.int .u32 x3)).setCell ⟨w.heap.size + 1, 4, none⟩ (.int .u32 x4)).setCell ⟨w.heap.size + 1, 5, none⟩ (.slice a5 n5 c5)).setCell ⟨w.heap.size + 1, 6, none⟩ (.bool x6)).setCell ⟨w.heap.size + 1, 7, none⟩ (.int .u16 x7)).setCell ⟨w.heap.size + 1, 8, none⟩ (.slice a8 n8 c8)).setCell ⟨w.heap.size + 1, 9, none⟩ (.slice a9 n9 c9)).setCell ⟨w.heap.size + 1, 10, none⟩ (.slice a10 n10 c10)).cell? ⟨w.heap.size + 1 + 1 + 1, 3, none⟩ = some (.int .u32 x3) ∧ (((((((((((W.setCell ⟨w.heap.size + 1, 0, none⟩ (.bool x0)).setCell ⟨w.heap.size + 1, 1, none⟩ (.int .i64 x1)).setCell ⟨w.heap.size + 1, 2, none⟩ (.int .u16 x2)).setCell ⟨w.heap.size + 1, 3, none⟩ (.int .u32 x3)).setCell ⟨w.heap.size + 1, 4, none⟩ (.int .u32 x4)).setCell ⟨w.heap.size + 1, 5, none⟩ (.slice a5 n5 c5)).setCell ⟨w.heap.size + 1, 6, none⟩ (.bool x6)).setCell ⟨w.heap.size + 1, 7, none⟩ (.int .u16 x7)).setCell ⟨w.heap.size + 1, 8, none⟩ (.slice a8 n8 c8)).setCell ⟨w.heap.size + 1, 9, none⟩ (.slice a9 n9 c9)).setCell ⟨w.heap.size + 1, 10, none⟩ (.slice a10 n10 c10)).cell? ⟨w.heap.size + 1 + 1 + 1, 4, none⟩ = some (.int .u32 x4) ∧ (((((((((((W.setCell ⟨w.heap.size + 1, 0, none⟩ (.bool x0)).setCell ⟨w.heap.size + 1, 1, none⟩ (.int .i64 x1)).setCell ⟨w.heap.size + 1, 2, none⟩ (.int .u16 x2)).setCell ⟨w.heap.size + 1, 3, none⟩ (.int .u32 x3)).setCell ⟨w.heap.size + 1, 4, none⟩ (.int .u32 x4)).setCell ⟨w.heap.size + 1, 5, none⟩ (.slice a5 n5 c5)).setCell ⟨w.heap.size + 1, 6, none⟩ (.bool x6)).setCell ⟨w.heap.size + 1, 7, none⟩ (.int .u16 x7)).setCell ⟨w.heap.size + 1, 8, none⟩ (.slice a8 n8 c8)).setCell ⟨w.heap.size + 1, 9, none⟩ (.slice a9 n9 c9)).setCell ⟨w.heap.size + 1, 10, none⟩ (.slice a10 n10 c10)).cell? ⟨w.heap.size + 1 + 1 + 1, 5, none⟩ = some (.slice a5 n5 c5) ∧ (((((((((((W.setCell ⟨w.heap.size + 1, 0, none⟩ (.bool x0)).setCell ⟨w.heap.size + 1, 1, none⟩ (.int .i64 x1)).setCell ⟨w.heap.size + 1, 2, none⟩ (.int .u16 x2)).setCell ⟨w.heap.size + 1, 3, none⟩ (.int .u32 x3)).setCell ⟨w.heap.size + 1, 4, none⟩ (.int .u32 x4)).setCell ⟨w.heap.size + 1, 5, none⟩ (.slice a5 n5 c5)).setCell ⟨w.heap.size + 1, 6, none⟩ (.bool x6)).setCell ⟨w.heap.size + 1, 7, none⟩ (.int .u16 x7)).setCell ⟨w.heap.size + 1, 8, none⟩ (.slice a8 n8 c8)).setCell ⟨w.heap.size + 1, 9, none⟩ (.slice a9 n9 c9)).setCell ⟨w.heap.size + 1, 10, none⟩ (.slice a10 n10 c10)).cell? ⟨w.heap.size + 1 + 1 + 1, 6, none⟩ = some (.bool x6) ∧ (((((((((((W.setCell ⟨w.heap.size + 1, 0, none⟩ (.bool x0)).setCell ⟨w.heap.size + 1, 1, none⟩ (.int .i64 x1)).setCell ⟨w.heap.size + 1, 2, none⟩ (.int .u16 x2)).setCell ⟨w.heap.size + 1, 3, none⟩ (.int .u32 x3)).setCell ⟨w.heap.size + 1, 4, none⟩ (.int .u32 x4)).setCell ⟨w.heap.size + 1, 5, none⟩ (.slice a5 n5 c5)).setCell ⟨w.heap.size + 1, 6, none⟩ (.bool x6)).setCell ⟨w.heap.size + 1, 7, none⟩ (.int .u16 x7)).setCell ⟨w.heap.size + 1, 8, none⟩ (.slice a8 n8 c8)).setCell ⟨w.heap.size + 1, 9, none⟩ (.slice a9 n9 c9)).setCell ⟨w.heap.size + 1, 10, none⟩ (.slice a10 n10 c10)).cell? ⟨w.heap.size + 1 + 1 + 1, 7, none⟩ = some (.int .u16 x7) ∧ (((((((((((W.setCell ⟨w.heap.size + 1, 0, none⟩ (.bool x0)).setCell ⟨w.heap.size + 1, 1, none⟩ (.int .i64 x1)).setCell ⟨w.heap.size + 1, 2, none⟩ (.int .u16 x2)).setCell ⟨w.heap.size + 1, 3, none⟩ (.int .u32 x3)).setCell ⟨w.heap.size + 1, 4, none⟩ (.int .u32 x4)).setCell ⟨w.heap.size + 1, 5, none⟩ (.slice a5 n5 c5)).setCell ⟨w.heap.size + 1, 6, none⟩ (.bool x6)).setCell ⟨w.heap.size + 1, 7, none⟩ (.int .u16 x7)).setCell ⟨w.heap.size + 1, 8, none⟩ (.slice a8 n8 c8)).setCell ⟨w.heap.size + 1, 9, none⟩ (.slice a9 n9 c9)).setCell ⟨w.heap.size + 1, 10, none⟩ (.slice a10 n10 c10)).cell? ⟨w.heap.size + 1 + 1 + 1, 8, none⟩ = some (.slice a8 n8 c8) ∧ (((((((((((W.setCell ⟨w.heap.size + 1, 0, none⟩ (.bool x0)).setCell ⟨w.heap.size + 1, 1, none⟩ (.int .i64 x1)).setCell ⟨w.heap.size + 1, 2, none⟩ (.int .u16 x2)).setCell ⟨w.heap.size + 1, 3, none⟩ (.int .u32 x3)).setCell ⟨w.heap.size + 1, 4, none⟩ (.int .u32 x4)).setCell ⟨w.heap.size + 1, 5, none⟩ (.slice a5 n5 c5)).setCell ⟨w.heap.size + 1, 6, none⟩ (.bool x6)).setCell ⟨w.heap.size + 1, 7, none⟩ (.int .u16 x7)).setCell ⟨w.heap.size + 1, 8, none⟩ (.slice a8 n8 c8)).setCell ⟨w.heap.size + 1, 9, none⟩ (.slice a9 n9 c9)).setCell ⟨w.heap.size + 1, 10, none⟩ (.slice a10 n10 c10)).cell? ⟨w.heap.size + 1 + 1 + 1, 9, none⟩ = some (.slice a9 n9 c9) ∧ (((((((((((W.setCell ⟨w.heap.size + 1, 0, none⟩ (.bool x0)).setCell ⟨w.heap.size + 1, 1, none⟩ (.int .i64 x1)).setCell ⟨w.heap.size + 1, 2, none⟩ (.int .u16 x2)).setCell ⟨w.heap.size + 1, 3, none⟩ (.int .u32 x3)).setCell ⟨w.heap.size + 1, 4, none⟩ (.int .u32 x4)).setCell ⟨w.heap.size + 1, 5, none⟩ (.slice a5 n5 c5)).setCell ⟨w.heap.size + 1, 6, none⟩ (.bool x6)).setCell ⟨w.heap.size + 1, 7, none⟩ (.int .u16 x7)).setCell ⟨w.heap.size + 1, 8, none⟩ (.slice a8 n8 c8)).setCell ⟨w.heap.size + 1, 9, none⟩ (.slice a9 n9 c9)).setCell ⟨w.heap.size + 1, 10, none⟩ (.slice a10 n10 c10)).cell? ⟨w.heap.size + 1 + 1 + 1, 10, none⟩ = some (.slice a10 n10 c10)) ∧ (((((((((((W.setCell ⟨w.heap.size + 1, 0, none⟩ (.bool x0)).setCell ⟨w.heap.size + 1, 1, none⟩ (.int .i64 x1)).setCell ⟨w.heap.size + 1, 2, none⟩ (.int .u16 x2)).setCell ⟨w.heap.size + 1, 3, none⟩ (.int .u32 x3)).setCell ⟨w.heap.size + 1, 4, none⟩ (.int .u32 x4)).setCell ⟨w.heap.size + 1, 5, none⟩ (.slice a5 n5 c5)).setCell ⟨w.heap.size + 1, 6, none⟩ (.bool x6)).setCell ⟨w.heap.size + 1, 7, none⟩ (.int .u16 x7)).setCell ⟨w.heap.size + 1, 8, none⟩ (.slice a8 n8 c8)).setCell ⟨w.heap.size + 1, 9, none⟩ (.slice a9 n9 c9)).setCell ⟨w.heap.size + 1, 10, none⟩ (.slice a10 n10 c10)).cell? ⟨w.heap.size + 1 + 1, 0, none⟩ = some (.slice a' n' c')) := Lib.hid fun W h => by
    have e : ∀ b o, b ≠ w.heap.size + 1 → (((((((((((W.setCell ⟨w.heap.size + 1, 0, none⟩ (.bool x0)).setCell ⟨w.heap.size + 1, 1, none⟩ (.int .i64 x1)).setCell ⟨w.heap.size + 1, 2, none⟩ (.int .u16 x2)).setCell ⟨w.heap.size + 1, 3, none⟩ (.int .u32 x3)).setCell ⟨w.heap.size + 1, 4, none⟩ (.int .u32 x4)).setCell ⟨w.heap.size + 1, 5, none⟩ (.slice a5 n5 c5)).setCell ⟨w.heap.size + 1, 6, none⟩ (.bool x6)).setCell ⟨w.heap.size + 1, 7, none⟩ (.int .u16 x7)).setCell ⟨w.heap.size + 1, 8, none⟩ (.slice a8 n8 c8)).setCell ⟨w.heap.size + 1, 9, none⟩ (.slice a9 n9 c9)).setCell ⟨w.heap.size + 1, 10, none⟩ (.slice a10 n10 c10)).cell? ⟨b, o, none⟩ = W.cell? ⟨b, o, none⟩ := fun b o hb => by
      exact World.cell?_of_block (w := W) (a := ⟨b, o, none⟩) (putL_other (w.heap.size + 1) b hb [.bool x0, .int .i64 x1, .int .u16 x2, .int .u32 x3, .int .u32 x4, .slice a5 n5 c5, .bool x6, .int .u16 x7, .slice a8 n8 c8, .slice a9 n9 c9, .slice a10 n10 c10] 0 W)
    simp only [e (w.heap.size + 1 + 1 + 1) _ (by omega), e (w.heap.size + 1 + 1) _ (by omega)]
    exact h
  go_region_held3 (fun W : World => (W.cell? ⟨w.heap.size + 1 + 1 + 1, 0, none⟩ = some (.bool x0) ∧ W.cell? ⟨w.heap.size + 1 + 1 + 1, 1, none⟩ = some (.int .i64 x1) ∧ W.cell? ⟨w.heap.size + 1 + 1 + 1, 2, none⟩ = some (.int .u16 x2) ∧ W.cell? ⟨w.heap.size + 1 + 1 + 1, 3, none⟩ = some (.int .u32 x3) ∧ W.cell? ⟨w.heap.size + 1 + 1 + 1, 4, none⟩ = some (.int .u32 x4) ∧ W.cell? ⟨w.heap.size + 1 + 1 + 1, 5, none⟩ = some (.slice a5 n5 c5) ∧ W.cell? ⟨w.heap.size + 1 + 1 + 1, 6, none⟩ = some (.bool x6) ∧ W.cell? ⟨w.heap.size + 1 + 1 + 1, 7, none⟩ = some (.int .u16 x7) ∧ W.cell? ⟨w.heap.size + 1 + 1 + 1, 8, none⟩ = some (.slice a8 n8 c8) ∧ W.cell? ⟨w.heap.size + 1 + 1 + 1, 9, none⟩ = some (.slice a9 n9 c9) ∧ W.cell? ⟨w.heap.size + 1 + 1 + 1, 10, none⟩ = some (.slice a10 n10 c10)) ∧ W.cell? ⟨w.heap.size + 1 + 1, 0, none⟩ = some (.slice a' n' c')) (first | with_reducible assumption | with_reducible exact DR.out _ (by with_reducible assumption) | with_reducible exact DR.out _ (PS.out _ (by with_reducible assumption)) | with_reducible exact PS.out _ (by with_reducible assumption)) (fail)
  obtain ⟨w3, hw3⟩ : ∃ w3, putL w2 (w.heap.size + 1) 0 [.bool x0, .int .i64 x1, .int .u16 x2, .int .u32 x3, .int .u32 x4, .slice a5 n5 c5, .bool x6, .int .u16 x7, .slice a8 n8 c8, .slice a9 n9 c9, .slice a10 n10 c10] = w3 := ⟨_, rfl⟩
  have P3 := Lib.hid (show Put w2 w3 (w.heap.size + 1) #[.bool x0, .int .i64 x1, .int .u16 x2, .int .u32 x3, .int .u32 x4, .slice a5 n5 c5, .bool x6, .int .u16 x7, .slice a8 n8 c8, .slice a9 n9 c9, .slice a10 n10 c10] 71 by rw [← hw3]; exact putL_is (us := [.bool false, .int .i64 0, .int .u16 0, .int .u32 0, .int .u32 0, .slice none 0 0, .bool false, .int .u16 0, .slice none 0 0, .slice none 0 0, .slice none 0 0]) HG1.out rfl)
  simp only [putL, Nat.zero_add, Nat.reduceAdd] at hw3
  rw [hw3]
  clear hw3 r0 hcur DR PS
  clear y0 y1 y2 y3 y4 y5 y6 y7 y8 y9 y10 yf
  go_wp2
  refine leaves_cons (f := 160) (args := #[.pointer (some ⟨w.heap.size, 0, none⟩)]) (by simp) (by simp [go_sem]) ?_
  have b23 : ∀ j, j ≠ w.heap.size + 1 → j ≠ w.heap.size + 1 + 1 + 1 → j < w1.heap.size → w3.heap[j]? = w1.heap[j]? := fun j h1 h3 hl => (P3.out.grown.block j (by rw [P2.out.size]; exact hl) (by simpa using h1)).trans (P2.out.grown.block j hl (by simpa using h3))
  have u3 : w3.heap[U]? = some (.cells #[.bool false, .int .i64 0] 219 (0, 0)) := (b23 U (by omega) (by omega) HR.out.ltU).trans HR.out.run
  have bx3 : w3.heap[w.heap.size]? = some (.cells #[.pointer (some ⟨U, 0, none⟩)] 222 (0, 0)) := (b23 w.heap.size (by omega) (by omega) (by have := HZK.out; have := HZW.out; omega)).trans Q0.out
  refine (catch_idle_pk w.heap.size U w3.drew (by rw [cell_of_row w3.drew _ 0 _ _ _ bx3]; rfl) (by rw [cell_of_row w3.drew _ 0 _ _ _ u3]; rfl) (frozen_of_row w3.drew _ 0 _ _ u3)).mono ?_
  rintro e u' w'' ⟨rfl, rfl, rfl⟩
  obtain ⟨w4, hw4⟩ : ∃ w4, w3.drew.setCell ⟨U, 0, none⟩ (.bool true) = w4 := ⟨_, rfl⟩
  rw [hw4]
  have o4 : ∀ j, j ≠ U → w4.heap[j]? = w3.heap[j]? := fun j hj => by rw [← hw4]; exact Below.heap_setCell w3.drew _ _ j hj
  have z4 : w4.heap.size = w1.heap.size := by rw [← hw4]; simp; rw [P3.out.size, P2.out.size]
  have q4 : w4.heap[w.heap.size + 1]? = some (.cells #[.bool x0, .int .i64 x1, .int .u16 x2, .int .u32 x3, .int .u32 x4, .slice a5 n5 c5, .bool x6, .int .u16 x7, .slice a8 n8 c8, .slice a9 n9 c9, .slice a10 n10 c10] 71 (0, 0)) := (o4 _ (by omega)).trans P3.out.row
  have hQ4 : Q (.agg #[.bool x0, .int .i64 x1, .int .u16 x2, .int .u32 x3, .int .u32 x4, .slice a5 n5 c5, .bool x6, .int .u16 x7, .slice a8 n8 c8, .slice a9 n9 c9, .slice a10 n10 c10]) w4 := by
    refine HST.out _ w1 w4 ⟨by omega, fun j hj hl => ?_⟩ HQ.out
    exact (o4 j (by omega)).trans (b23 j (by omega) (by omega) hl)
  have hg4 : w.grownBy w4 (some U) := by
    have hB := attW_pk_below w U a n c
    have hb := hB.size; have hzw := HZW.out; have hzk := HZK.out
    refine ⟨?_, ?_, ?_, by omega, fun j hj hne => ?_⟩
    · rw [← hw4]; exact P3.out.grown.os.trans (P2.out.grown.os.trans (HK.out.os.trans hB.os))
    · rw [← hw4]; exact P3.out.grown.tape.trans (P2.out.grown.tape.trans (HK.out.tape.trans hB.tape))
    · rw [← hw4]; exact P3.out.grown.output.trans (P2.out.grown.output.trans (HK.out.output.trans hB.output))
    · exact (o4 j (by simpa using hne)).trans ((b23 j (by omega) (by omega) (by omega)).trans ((KB.out j (by omega) (by omega) (by simpa using hne)).trans (hB.block j hj)))
  have hu4 : w4.heap[U]? = some (.cells #[.bool true, .int .i64 0] 219 (0, 0)) := by rw [← hw4]; exact heap_setCell_same w3.drew U 0 _ _ _ u3
  have HF := Lib.hid (show AttS U k Q w (.returned (.tuple #[.agg #[.bool x0, .int .i64 x1, .int .u16 x2, .int .u32 x3, .int .u32 x4, .slice a5 n5 c5, .bool x6, .int .u16 x7, .slice a8 n8 c8, .slice a9 n9 c9, .slice a10 n10 c10], .int .i64 k])) w4 from ⟨_, rfl, hQ4, hu4, hg4⟩)
  have d0 : w4.cell? ⟨w.heap.size + 1, 0, none⟩ = some (.bool x0) := by rw [cell_of_row w4 _ 0 _ _ _ q4]; rfl
  have d1 : w4.cell? ⟨w.heap.size + 1, 1, none⟩ = some (.int .i64 x1) := by rw [cell_of_row w4 _ 1 _ _ _ q4]; rfl
  have d2 : w4.cell? ⟨w.heap.size + 1, 2, none⟩ = some (.int .u16 x2) := by rw [cell_of_row w4 _ 2 _ _ _ q4]; rfl
  have d3 : w4.cell? ⟨w.heap.size + 1, 3, none⟩ = some (.int .u32 x3) := by rw [cell_of_row w4 _ 3 _ _ _ q4]; rfl
  have d4 : w4.cell? ⟨w.heap.size + 1, 4, none⟩ = some (.int .u32 x4) := by rw [cell_of_row w4 _ 4 _ _ _ q4]; rfl
  have d5 : w4.cell? ⟨w.heap.size + 1, 5, none⟩ = some (.slice a5 n5 c5) := by rw [cell_of_row w4 _ 5 _ _ _ q4]; rfl
  have d6 : w4.cell? ⟨w.heap.size + 1, 6, none⟩ = some (.bool x6) := by rw [cell_of_row w4 _ 6 _ _ _ q4]; rfl
  have d7 : w4.cell? ⟨w.heap.size + 1, 7, none⟩ = some (.int .u16 x7) := by rw [cell_of_row w4 _ 7 _ _ _ q4]; rfl
  have d8 : w4.cell? ⟨w.heap.size + 1, 8, none⟩ = some (.slice a8 n8 c8) := by rw [cell_of_row w4 _ 8 _ _ _ q4]; rfl
  have d9 : w4.cell? ⟨w.heap.size + 1, 9, none⟩ = some (.slice a9 n9 c9) := by rw [cell_of_row w4 _ 9 _ _ _ q4]; rfl
  have d10 : w4.cell? ⟨w.heap.size + 1, 10, none⟩ = some (.slice a10 n10 c10) := by rw [cell_of_row w4 _ 10 _ _ _ q4]; rfl
  have df : ∀ o, w4.frozen? ⟨w.heap.size + 1, o, none⟩ = false := fun o => frozen_of_row w4 _ o _ _ q4
  clear hw4 o4 z4 q4 hQ4 hg4 hu4 b23 u3 bx3
  simp [Leaves, settle, results, Try.results144, go_sem, d0, d1, d2, d3, d4, d5, d6, d7, d8, d9, d10]
  exact HF.out
set_option maxHeartbeats 1000000 in
set_option maxRecDepth 100000 in
theorem attempt_fail_pk (U : Nat) (a : Option Addr) (n c : Nat) (g : Nat) (cap : Array Value) (f : Int) (w : World)
    (hu : w.heap[U]? = some (.cells #[.bool false, .int .i64 0] 219 (0, 0)))
    (hnil : ∀ w, (binOp .neq 138 (.func (.func g) #[] cap) .nilFunc).run Try.prog w = .ok (.bool true) w)
    (hent : ∀ args w, (callFunc g args).run Try.prog w = .ok (.enter g args) w)
    (hp : Calls Try.prog g (#[.pointer (some ⟨w.heap.size + 2, 0, none⟩)] ++ cap) (attW_pk w U a n c) (ParseFail (w.heap.size + 2) U f (attW_pk w U a n c))) :
    Calls Try.prog 144 #[.pointer (some ⟨U, 0, none⟩), .slice a n c, .func (.func g) #[] cap] w (AttFail U f (.agg #[.bool false, .int .i64 0, .int .u16 0, .int .u32 0, .int .u32 0, .slice none 0 0, .bool false, .int .u16 0, .slice none 0 0, .slice none 0 0, .slice none 0 0]) w) := by
  have hmf : ∀ (fn : Fn) (first cap : Array Value) (w : World), (Instr.makeFunc fn first cap).run Try.prog w = .ok (.func fn first cap) w := fun _ _ _ _ => rfl
  have HP := Lib.hid hp; have HU := Lib.hid hu; clear hp hu
  go_enter_defers Try.func144, Try.ntmps144
  go_wp2
  refine (HP.out).mono ?_
  rintro e w1 ⟨rfl, hu1, hK⟩
  have hlt := (Array.getElem?_eq_some_iff.1 HU.out).1
  have hzw := attW_pk_size w U a n c
  have hzk := hK.size
  have kb : ∀ j, j < w.heap.size + 4 → j ≠ w.heap.size + 2 → j ≠ U → w1.heap[j]? = (attW_pk w U a n c).heap[j]? := fun j h1 h2 h3 => hK.block j (by omega) h2 (by simpa using h3)
  obtain ⟨rw0, rw1, rw3⟩ := attW_pk_rows w U a n c
  have q0 := (kb w.heap.size (by omega) (by omega) (by omega)).trans rw0
  have q1 := (kb (w.heap.size + 1) (by omega) (by omega) (by omega)).trans rw1
  have HU1 := Lib.hid hu1; have HK := Lib.hid hK; have Q0 := Lib.hid q0; have Q1 := Lib.hid q1; have KB := Lib.hid kb; have HZW := Lib.hid hzw; have HZK := Lib.hid hzk
  clear hu1 hK HP rw0 rw1 rw3 q0 q1 kb hzw hzk
  go_wp2
  refine leaves_cons (f := 160) (args := #[.pointer (some ⟨w.heap.size, 0, none⟩)]) (by simp) (by simp [go_sem]) ?_
  refine (catch_fail_pk w.heap.size U _ (by rw [cell_of_row w1 _ 0 _ _ _ Q0.out]; rfl) ⟨_, by rw [cell_of_row w1 U 0 _ _ _ HU1.out]; rfl⟩ (frozen_of_row w1 U 0 _ _ HU1.out) (by omega) (by have := HZK.out; have := HZW.out; omega)).mono ?_
  rintro e u' w'' ⟨rfl, rfl, rfl⟩
  obtain ⟨w4, hw4⟩ : ∃ w4, (w1.setCell ⟨U, 0, none⟩ (.bool true)).alloc (.cells #[.pointer (some ⟨U, 0, none⟩)] 233) = w4 := ⟨_, rfl⟩
  rw [hw4]
  have hul := (Array.getElem?_eq_some_iff.1 HU1.out).1
  have o4 : ∀ j, j ≠ U → j < w1.heap.size → w4.heap[j]? = w1.heap[j]? := fun j hj hl => by rw [← hw4]; exact (heap_alloc_old _ _ (by simpa using hl)).trans (Below.heap_setCell w1 _ _ j hj)
  have z4 : w4.heap.size = w1.heap.size + 1 := by rw [← hw4]; simp
  have q4 : w4.heap[w.heap.size + 1]? = some (.cells #[.bool false, .int .i64 0, .int .u16 0, .int .u32 0, .int .u32 0, .slice none 0 0, .bool false, .int .u16 0, .slice none 0 0, .slice none 0 0, .slice none 0 0] 71 (0, 0)) := (o4 _ (by omega) (by have := HZK.out; have := HZW.out; omega)).trans Q1.out
  have hg4 : w.grownBy w4 (some U) := by
    have hB := attW_pk_below w U a n c
    have hb := hB.size; have hzw := HZW.out; have hzk := HZK.out
    refine ⟨?_, ?_, ?_, by omega, fun j hj hne => ?_⟩
    · rw [← hw4]; exact HK.out.os.trans hB.os
    · rw [← hw4]; exact HK.out.tape.trans hB.tape
    · rw [← hw4]; exact HK.out.output.trans hB.output
    · exact (o4 j (by simpa using hne) (by omega)).trans ((KB.out j (by omega) (by omega) (by simpa using hne)).trans (hB.block j hj))
  have hu4 : w4.heap[U]? = some (.cells #[.bool true, .int .i64 f] 219 (0, 0)) := by rw [← hw4]; exact (heap_alloc_old _ _ (by simpa using hul)).trans (heap_setCell_same w1 U 0 _ _ _ HU1.out)
  have HF := Lib.hid (show AttFail U f (.agg #[.bool false, .int .i64 0, .int .u16 0, .int .u32 0, .int .u32 0, .slice none 0 0, .bool false, .int .u16 0, .slice none 0 0, .slice none 0 0, .slice none 0 0]) w (.returned (.tuple #[.agg #[.bool false, .int .i64 0, .int .u16 0, .int .u32 0, .int .u32 0, .slice none 0 0, .bool false, .int .u16 0, .slice none 0 0, .slice none 0 0, .slice none 0 0], .int .i64 0])) w4 from ⟨rfl, hu4, hg4⟩)
  have d0 : w4.cell? ⟨w.heap.size + 1, 0, none⟩ = some (.bool false) := by rw [cell_of_row w4 _ 0 _ _ _ q4]; rfl
  have d1 : w4.cell? ⟨w.heap.size + 1, 1, none⟩ = some (.int .i64 0) := by rw [cell_of_row w4 _ 1 _ _ _ q4]; rfl
  have d2 : w4.cell? ⟨w.heap.size + 1, 2, none⟩ = some (.int .u16 0) := by rw [cell_of_row w4 _ 2 _ _ _ q4]; rfl
  have d3 : w4.cell? ⟨w.heap.size + 1, 3, none⟩ = some (.int .u32 0) := by rw [cell_of_row w4 _ 3 _ _ _ q4]; rfl
  have d4 : w4.cell? ⟨w.heap.size + 1, 4, none⟩ = some (.int .u32 0) := by rw [cell_of_row w4 _ 4 _ _ _ q4]; rfl
  have d5 : w4.cell? ⟨w.heap.size + 1, 5, none⟩ = some (.slice none 0 0) := by rw [cell_of_row w4 _ 5 _ _ _ q4]; rfl
  have d6 : w4.cell? ⟨w.heap.size + 1, 6, none⟩ = some (.bool false) := by rw [cell_of_row w4 _ 6 _ _ _ q4]; rfl
  have d7 : w4.cell? ⟨w.heap.size + 1, 7, none⟩ = some (.int .u16 0) := by rw [cell_of_row w4 _ 7 _ _ _ q4]; rfl
  have d8 : w4.cell? ⟨w.heap.size + 1, 8, none⟩ = some (.slice none 0 0) := by rw [cell_of_row w4 _ 8 _ _ _ q4]; rfl
  have d9 : w4.cell? ⟨w.heap.size + 1, 9, none⟩ = some (.slice none 0 0) := by rw [cell_of_row w4 _ 9 _ _ _ q4]; rfl
  have d10 : w4.cell? ⟨w.heap.size + 1, 10, none⟩ = some (.slice none 0 0) := by rw [cell_of_row w4 _ 10 _ _ _ q4]; rfl
  have df : ∀ o, w4.frozen? ⟨w.heap.size + 1, o, none⟩ = false := fun o => frozen_of_row w4 _ o _ _ q4
  clear hw4 o4 z4 q4 hg4 hu4
  simp [Leaves, settle, results, Try.results144, go_sem, d0, d1, d2, d3, d4, d5, d6, d7, d8, d9, d10]
  exact HF.out
/-- Behind the result's box and 'var own run'. -/
def runW_pk (w : World) : World := (w.alloc (.cells #[.bool false, .int .i64 0, .int .u16 0, .int .u32 0, .int .u32 0, .slice none 0 0, .bool false, .int .u16 0, .slice none 0 0, .slice none 0 0, .slice none 0 0] 71)).alloc (.cells #[.bool false, .int .i64 0] 219)
theorem runW_pk_size (w : World) : (runW_pk w).heap.size = w.heap.size + 2 := by simp [runW_pk]
theorem runW_pk_below (w : World) : Below w.heap.size w (runW_pk w) := ((Below.refl _ w).alloc (Nat.le_refl _) _).alloc (by simp) _
theorem runW_pk_run (w : World) : (runW_pk w).heap[w.heap.size + 1]? = some (.cells #[.bool false, .int .i64 0] 219 (0, 0)) := lit_new (by simp)
theorem runW_pk_box (w : World) : (runW_pk w).heap[w.heap.size]? = some (.cells #[.bool false, .int .i64 0, .int .u16 0, .int .u32 0, .int .u32 0, .slice none 0 0, .bool false, .int .u16 0, .slice none 0 0, .slice none 0 0, .slice none 0 0] 71 (0, 0)) := lit_old rfl
structure POk_pk (g : Nat) (cap : Array Value) (a : Option Addr) (n c : Nat) (n' : Nat) (l' : List Int) (Q : Value → World → Prop) (w : World) : Prop where
  nil : ∀ w, (binOp .neq 138 (.func (.func g) #[] cap) .nilFunc).run Try.prog w = .ok (.bool true) w
  ent : ∀ args w, (callFunc g args).run Try.prog w = .ok (.enter g args) w
  st : Steady (w.heap.size + 6) Q
  ag : ∀ v W, Q v W → ∃ x0 x1 x2 x3 x4 a5 n5 c5 x6 x7 a8 n8 c8 a9 n9 c9 a10 n10 c10, v = .agg #[.bool x0, .int .i64 x1, .int .u16 x2, .int .u32 x3, .int .u32 x4, .slice a5 n5 c5, .bool x6, .int .u16 x7, .slice a8 n8 c8, .slice a9 n9 c9, .slice a10 n10 c10]
  calls : Calls Try.prog g (#[.pointer (some ⟨(runW_pk w).heap.size + 2, 0, none⟩)] ++ cap) (attW_pk (runW_pk w) (w.heap.size + 1) a n c) (ParseOk ((runW_pk w).heap.size + 2) (w.heap.size + 1) n' l' Q (attW_pk (runW_pk w) (w.heap.size + 1) a n c))
structure PNo_pk (g : Nat) (cap : Array Value) (a : Option Addr) (n c : Nat) (f : Int) (w : World) : Prop where
  nil : ∀ w, (binOp .neq 138 (.func (.func g) #[] cap) .nilFunc).run Try.prog w = .ok (.bool true) w
  ent : ∀ args w, (callFunc g args).run Try.prog w = .ok (.enter g args) w
  calls : Calls Try.prog g (#[.pointer (some ⟨(runW_pk w).heap.size + 2, 0, none⟩)] ++ cap) (attW_pk (runW_pk w) (w.heap.size + 1) a n c) (ParseFail ((runW_pk w).heap.size + 2) (w.heap.size + 1) f (attW_pk (runW_pk w) (w.heap.size + 1) a n c))
/-- The Reader that the parser is given. -/
theorem part_rd_pk (w : World) (a : Option Addr) (n c : Nat) (l : List Int) (hb : BAt w a n l) (hc : n ≤ c) : RdAt (attW_pk (runW_pk w) (w.heap.size + 1) a n c) ((runW_pk w).heap.size + 2) (w.heap.size + 1) a n c l :=
  attW_pk_rd (runW_pk w) (w.heap.size + 1) a n c l (runW_pk_run w) (hb.below (runW_pk_below w)) hc (fun h0 x hx => by have := hb.lt h0 x hx; omega)
theorem part_sz_pk (w : World) (a : Option Addr) (n c : Nat) : (attW_pk (runW_pk w) (w.heap.size + 1) a n c).heap.size = w.heap.size + 6 := by rw [attW_pk_size, runW_pk_size]
theorem part_low_pk (w : World) (a : Option Addr) (n c : Nat) : Below w.heap.size w (attW_pk (runW_pk w) (w.heap.size + 1) a n c) :=
  (runW_pk_below w).trans ((attW_pk_below (runW_pk w) (w.heap.size + 1) a n c).mono (runW_pk_below w).size)
set_option maxHeartbeats 1000000 in
set_option maxRecDepth 100000 in
theorem part_ok_pk (a : Option Addr) (n c : Nat) (g : Nat) (cap : Array Value) (n' k : Nat) (l' : List Int) (Q : Value → World → Prop) (w : World)
    (hn : n ≤ 9223372036854775807) (hk : n = n' + k) (hp : POk_pk g cap a n c n' l' Q w) :
    Calls Try.prog 117 #[.slice a n c, .func (.func g) #[] cap] w (PartS k Q w) := by
  have hatt := attempt_ok_pk (w.heap.size + 1) a n c g cap n' k l' Q (runW_pk w) (runW_pk_run w) hn hk hp.nil hp.ent (by rw [runW_pk_size]; exact hp.st) hp.ag hp.calls
  have HATT := Lib.hid hatt; have HP := Lib.hid hp; clear hatt hp hk
  go_enter Try.func117, Try.ntmps117
  go_wp2_with fail
  refine (HATT.out).mono ?_
  rintro e w2 ⟨v, rfl, hQ, hU, hg⟩
  obtain ⟨x0, x1, x2, x3, x4, a5, n5, c5, x6, x7, a8, n8, c8, a9, n9, c9, a10, n10, c10, rfl⟩ := HP.out.ag _ _ hQ
  have hzr := runW_pk_size w
  have hz2 := hg.size
  have hu1 : w2.cell? ⟨w.heap.size + 1, 1, none⟩ = some (.int .i64 0) := by rw [cell_of_row w2 _ 1 _ _ _ hU]; rfl
  have hb4 : w2.heap[w.heap.size]? = some (.cells #[.bool false, .int .i64 0, .int .u16 0, .int .u32 0, .int .u32 0, .slice none 0 0, .bool false, .int .u16 0, .slice none 0 0, .slice none 0 0, .slice none 0 0] 71 (0, 0)) := (hg.block w.heap.size (by omega) (by simp)).trans (runW_pk_box w)
  have hlow : Below w.heap.size w w2 := (runW_pk_below w).grown hg (by rw [hzr]; omega) (fun k e => by cases e; omega)
  have hz2' : w.heap.size < w2.heap.size := by omega
  have hz3' : w.heap.size + 1 < w2.heap.size := by omega
  have HQ := Lib.hid hQ; have HB4 := Lib.hid hb4; have HLOW := Lib.hid hlow; have HZ2 := Lib.hid hz2
  clear hQ hU hg HATT hzr hlow hz2
  have d0 : w2.cell? ⟨w.heap.size, 0, none⟩ = some (.bool false) := by rw [cell_of_row w2 _ 0 _ _ _ hb4]; rfl
  have d1 : w2.cell? ⟨w.heap.size, 1, none⟩ = some (.int .i64 0) := by rw [cell_of_row w2 _ 1 _ _ _ hb4]; rfl
  have d2 : w2.cell? ⟨w.heap.size, 2, none⟩ = some (.int .u16 0) := by rw [cell_of_row w2 _ 2 _ _ _ hb4]; rfl
  have d3 : w2.cell? ⟨w.heap.size, 3, none⟩ = some (.int .u32 0) := by rw [cell_of_row w2 _ 3 _ _ _ hb4]; rfl
  have d4 : w2.cell? ⟨w.heap.size, 4, none⟩ = some (.int .u32 0) := by rw [cell_of_row w2 _ 4 _ _ _ hb4]; rfl
  have d5 : w2.cell? ⟨w.heap.size, 5, none⟩ = some (.slice none 0 0) := by rw [cell_of_row w2 _ 5 _ _ _ hb4]; rfl
  have d6 : w2.cell? ⟨w.heap.size, 6, none⟩ = some (.bool false) := by rw [cell_of_row w2 _ 6 _ _ _ hb4]; rfl
  have d7 : w2.cell? ⟨w.heap.size, 7, none⟩ = some (.int .u16 0) := by rw [cell_of_row w2 _ 7 _ _ _ hb4]; rfl
  have d8 : w2.cell? ⟨w.heap.size, 8, none⟩ = some (.slice none 0 0) := by rw [cell_of_row w2 _ 8 _ _ _ hb4]; rfl
  have d9 : w2.cell? ⟨w.heap.size, 9, none⟩ = some (.slice none 0 0) := by rw [cell_of_row w2 _ 9 _ _ _ hb4]; rfl
  have d10 : w2.cell? ⟨w.heap.size, 10, none⟩ = some (.slice none 0 0) := by rw [cell_of_row w2 _ 10 _ _ _ hb4]; rfl
  have df : ∀ o, w2.frozen? ⟨w.heap.size, o, none⟩ = false := fun o => frozen_of_row w2 _ o _ _ hb4
  clear hb4
  go_wp2
  obtain ⟨w3, hw3⟩ : ∃ w3, putL w2 w.heap.size 0 [.bool x0, .int .i64 x1, .int .u16 x2, .int .u32 x3, .int .u32 x4, .slice a5 n5 c5, .bool x6, .int .u16 x7, .slice a8 n8 c8, .slice a9 n9 c9, .slice a10 n10 c10] = w3 := ⟨_, rfl⟩
  have P3 : Put w2 w3 w.heap.size #[.bool x0, .int .i64 x1, .int .u16 x2, .int .u32 x3, .int .u32 x4, .slice a5 n5 c5, .bool x6, .int .u16 x7, .slice a8 n8 c8, .slice a9 n9 c9, .slice a10 n10 c10] 71 := by rw [← hw3]; exact putL_is (us := [.bool false, .int .i64 0, .int .u16 0, .int .u32 0, .int .u32 0, .slice none 0 0, .bool false, .int .u16 0, .slice none 0 0, .slice none 0 0, .slice none 0 0]) HB4.out rfl
  simp only [putL, Nat.zero_add, Nat.reduceAdd] at hw3
  rw [hw3]
  obtain ⟨w4, hw4⟩ : ∃ w4, w3.alloc (.cells #[.bool x0, .int .i64 x1, .int .u16 x2, .int .u32 x3, .int .u32 x4, .slice a5 n5 c5, .bool x6, .int .u16 x7, .slice a8 n8 c8, .slice a9 n9 c9, .slice a10 n10 c10] 71) = w4 := ⟨_, rfl⟩
  rw [hw4]
  have hl4 : Below w.heap.size w w4 := by rw [← hw4]; exact (HLOW.out.grown P3.grown HLOW.out.size (fun k e => by cases e; omega)).alloc (by rw [P3.size]; exact HLOW.out.size) _
  have q4 : w4.heap[w.heap.size]? = some (.cells #[.bool x0, .int .i64 x1, .int .u16 x2, .int .u32 x3, .int .u32 x4, .slice a5 n5 c5, .bool x6, .int .u16 x7, .slice a8 n8 c8, .slice a9 n9 c9, .slice a10 n10 c10] 71 (0, 0)) := by rw [← hw4]; exact (heap_alloc_old _ _ (by rw [P3.size]; exact hz2')).trans P3.row
  have hQ4 : Q (.agg #[.bool x0, .int .i64 x1, .int .u16 x2, .int .u32 x3, .int .u32 x4, .slice a5 n5 c5, .bool x6, .int .u16 x7, .slice a8 n8 c8, .slice a9 n9 c9, .slice a10 n10 c10]) w4 := HP.out.st _ w2 w4 ((Above.grown P3.grown (by omega)).trans (by rw [← hw4]; exact Above.alloc _ _ _)) HQ.out
  have HF := Lib.hid (show PartS k Q w (.returned (.tuple #[.agg #[.bool x0, .int .i64 x1, .int .u16 x2, .int .u32 x3, .int .u32 x4, .slice a5 n5 c5, .bool x6, .int .u16 x7, .slice a8 n8 c8, .slice a9 n9 c9, .slice a10 n10 c10], .int .i64 k, .int .i64 0])) w4 from ⟨_, rfl, hQ4, hl4⟩)
  clear hw3 hw4 P3 hl4 hQ4
  clear d0 d1 d2 d3 d4 d5 d6 d7 d8 d9 d10 df
  have d0 : w4.cell? ⟨w.heap.size, 0, none⟩ = some (.bool x0) := by rw [cell_of_row w4 _ 0 _ _ _ q4]; rfl
  have d1 : w4.cell? ⟨w.heap.size, 1, none⟩ = some (.int .i64 x1) := by rw [cell_of_row w4 _ 1 _ _ _ q4]; rfl
  have d2 : w4.cell? ⟨w.heap.size, 2, none⟩ = some (.int .u16 x2) := by rw [cell_of_row w4 _ 2 _ _ _ q4]; rfl
  have d3 : w4.cell? ⟨w.heap.size, 3, none⟩ = some (.int .u32 x3) := by rw [cell_of_row w4 _ 3 _ _ _ q4]; rfl
  have d4 : w4.cell? ⟨w.heap.size, 4, none⟩ = some (.int .u32 x4) := by rw [cell_of_row w4 _ 4 _ _ _ q4]; rfl
  have d5 : w4.cell? ⟨w.heap.size, 5, none⟩ = some (.slice a5 n5 c5) := by rw [cell_of_row w4 _ 5 _ _ _ q4]; rfl
  have d6 : w4.cell? ⟨w.heap.size, 6, none⟩ = some (.bool x6) := by rw [cell_of_row w4 _ 6 _ _ _ q4]; rfl
  have d7 : w4.cell? ⟨w.heap.size, 7, none⟩ = some (.int .u16 x7) := by rw [cell_of_row w4 _ 7 _ _ _ q4]; rfl
  have d8 : w4.cell? ⟨w.heap.size, 8, none⟩ = some (.slice a8 n8 c8) := by rw [cell_of_row w4 _ 8 _ _ _ q4]; rfl
  have d9 : w4.cell? ⟨w.heap.size, 9, none⟩ = some (.slice a9 n9 c9) := by rw [cell_of_row w4 _ 9 _ _ _ q4]; rfl
  have d10 : w4.cell? ⟨w.heap.size, 10, none⟩ = some (.slice a10 n10 c10) := by rw [cell_of_row w4 _ 10 _ _ _ q4]; rfl
  have df : ∀ o, w4.frozen? ⟨w.heap.size, o, none⟩ = false := fun o => frozen_of_row w4 _ o _ _ q4
  clear q4 hu1
  exact bodyPost_ret (v := .tuple #[.agg #[.bool x0, .int .i64 x1, .int .u16 x2, .int .u32 x3, .int .u32 x4, .slice a5 n5 c5, .bool x6, .int .u16 x7, .slice a8 n8 c8, .slice a9 n9 c9, .slice a10 n10 c10], .int .i64 k, .int .i64 0]) (by simp [results, Try.results117, go_sem, d0, d1, d2, d3, d4, d5, d6, d7, d8, d9, d10]) rfl HF.out
set_option maxHeartbeats 2000000 in
set_option maxRecDepth 100000 in
theorem part_fail_pk (a : Option Addr) (n c : Nat) (g : Nat) (cap : Array Value) (f : Int) (w : World) (hf : (f != 0) = true) (hp : PNo_pk g cap a n c f w) :
    Calls Try.prog 117 #[.slice a n c, .func (.func g) #[] cap] w (PartFail (.agg #[.bool false, .int .i64 0, .int .u16 0, .int .u32 0, .int .u32 0, .slice none 0 0, .bool false, .int .u16 0, .slice none 0 0, .slice none 0 0, .slice none 0 0]) f w) := by
  have hatt := attempt_fail_pk (w.heap.size + 1) a n c g cap f (runW_pk w) (runW_pk_run w) hp.nil hp.ent hp.calls
  have HATT := Lib.hid hatt; clear hatt hp
  go_enter Try.func117, Try.ntmps117
  go_wp2_with fail
  refine (HATT.out).mono ?_
  rintro e w2 ⟨rfl, hU, hg⟩
  have hzr := runW_pk_size w
  have hz2 := hg.size
  have hu1 : w2.cell? ⟨w.heap.size + 1, 1, none⟩ = some (.int .i64 f) := by rw [cell_of_row w2 _ 1 _ _ _ hU]; rfl
  have hb4 : w2.heap[w.heap.size]? = some (.cells #[.bool false, .int .i64 0, .int .u16 0, .int .u32 0, .int .u32 0, .slice none 0 0, .bool false, .int .u16 0, .slice none 0 0, .slice none 0 0, .slice none 0 0] 71 (0, 0)) := (hg.block w.heap.size (by omega) (by simp)).trans (runW_pk_box w)
  have hlow : Below w.heap.size w w2 := (runW_pk_below w).grown hg (by rw [hzr]; omega) (fun k e => by cases e; omega)
  have hz2' : w.heap.size < w2.heap.size := by omega
  have hz3' : w.heap.size + 1 < w2.heap.size := by omega
  have HB4 := Lib.hid hb4; have HLOW := Lib.hid hlow; have HU := Lib.hid hU
  clear hU hg HATT hzr hlow hz2 hb4
  go_wp2_with fail
  obtain ⟨w3, hw3⟩ : ∃ w3, (w2.alloc (.cells #[.bool false, .int .i64 0, .int .u16 0, .int .u32 0, .int .u32 0, .slice none 0 0, .bool false, .int .u16 0, .slice none 0 0, .slice none 0 0, .slice none 0 0] 71)).alloc (.cells #[.bool false, .int .i64 0, .int .u16 0, .int .u32 0, .int .u32 0, .slice none 0 0, .bool false, .int .u16 0, .slice none 0 0, .slice none 0 0, .slice none 0 0] 71) = w3 := ⟨_, rfl⟩
  have hb3 : w3.heap[w.heap.size]? = some (.cells #[.bool false, .int .i64 0, .int .u16 0, .int .u32 0, .int .u32 0, .slice none 0 0, .bool false, .int .u16 0, .slice none 0 0, .slice none 0 0, .slice none 0 0] 71 (0, 0)) := by rw [← hw3]; exact (heap_alloc_old _ _ (by simp; omega)).trans ((heap_alloc_old _ _ hz2').trans HB4.out)
  have hbu3 : w3.heap[w.heap.size + 1]? = some (.cells #[.bool true, .int .i64 f] 219 (0, 0)) := by rw [← hw3]; exact (heap_alloc_old _ _ (by simp; omega)).trans ((heap_alloc_old _ _ hz3').trans HU.out)
  have hbn3 : w3.heap[w2.heap.size + 1]? = some (.cells #[.bool false, .int .i64 0, .int .u16 0, .int .u32 0, .int .u32 0, .slice none 0 0, .bool false, .int .u16 0, .slice none 0 0, .slice none 0 0, .slice none 0 0] 71 (0, 0)) := by rw [← hw3]; exact lit_new (by simp)
  have hl3 : Below w.heap.size w w3 := by rw [← hw3]; exact (HLOW.out.alloc HLOW.out.size _).alloc (by have := HLOW.out.size; simp; omega) _
  rw [hw3]
  have hne : w.heap.size ≠ w2.heap.size + 1 := by omega
  have hne2 : w.heap.size ≠ w.heap.size + 1 := by omega
  have HB3 := Lib.hid hb3; have HL3 := Lib.hid hl3
  have y0 : w3.cell? ⟨w.heap.size, 0, none⟩ = some (.bool false) := by rw [cell_of_row w3 _ 0 _ _ _ hb3]; rfl
  have y1 : w3.cell? ⟨w.heap.size, 1, none⟩ = some (.int .i64 0) := by rw [cell_of_row w3 _ 1 _ _ _ hb3]; rfl
  have y2 : w3.cell? ⟨w.heap.size, 2, none⟩ = some (.int .u16 0) := by rw [cell_of_row w3 _ 2 _ _ _ hb3]; rfl
  have y3 : w3.cell? ⟨w.heap.size, 3, none⟩ = some (.int .u32 0) := by rw [cell_of_row w3 _ 3 _ _ _ hb3]; rfl
  have y4 : w3.cell? ⟨w.heap.size, 4, none⟩ = some (.int .u32 0) := by rw [cell_of_row w3 _ 4 _ _ _ hb3]; rfl
  have y5 : w3.cell? ⟨w.heap.size, 5, none⟩ = some (.slice none 0 0) := by rw [cell_of_row w3 _ 5 _ _ _ hb3]; rfl
  have y6 : w3.cell? ⟨w.heap.size, 6, none⟩ = some (.bool false) := by rw [cell_of_row w3 _ 6 _ _ _ hb3]; rfl
  have y7 : w3.cell? ⟨w.heap.size, 7, none⟩ = some (.int .u16 0) := by rw [cell_of_row w3 _ 7 _ _ _ hb3]; rfl
  have y8 : w3.cell? ⟨w.heap.size, 8, none⟩ = some (.slice none 0 0) := by rw [cell_of_row w3 _ 8 _ _ _ hb3]; rfl
  have y9 : w3.cell? ⟨w.heap.size, 9, none⟩ = some (.slice none 0 0) := by rw [cell_of_row w3 _ 9 _ _ _ hb3]; rfl
  have y10 : w3.cell? ⟨w.heap.size, 10, none⟩ = some (.slice none 0 0) := by rw [cell_of_row w3 _ 10 _ _ _ hb3]; rfl
  have yf : ∀ o, w3.frozen? ⟨w.heap.size, o, none⟩ = false := fun o => frozen_of_row w3 _ o _ _ hb3
  have hcur : (w3.cell? ⟨w2.heap.size + 1, 0, none⟩ = some (.bool false) ∧ w3.cell? ⟨w2.heap.size + 1, 1, none⟩ = some (.int .i64 0) ∧ w3.cell? ⟨w2.heap.size + 1, 2, none⟩ = some (.int .u16 0) ∧ w3.cell? ⟨w2.heap.size + 1, 3, none⟩ = some (.int .u32 0) ∧ w3.cell? ⟨w2.heap.size + 1, 4, none⟩ = some (.int .u32 0) ∧ w3.cell? ⟨w2.heap.size + 1, 5, none⟩ = some (.slice none 0 0) ∧ w3.cell? ⟨w2.heap.size + 1, 6, none⟩ = some (.bool false) ∧ w3.cell? ⟨w2.heap.size + 1, 7, none⟩ = some (.int .u16 0) ∧ w3.cell? ⟨w2.heap.size + 1, 8, none⟩ = some (.slice none 0 0) ∧ w3.cell? ⟨w2.heap.size + 1, 9, none⟩ = some (.slice none 0 0) ∧ w3.cell? ⟨w2.heap.size + 1, 10, none⟩ = some (.slice none 0 0)) ∧ w3.cell? ⟨w.heap.size + 1, 1, none⟩ = some (.int .i64 f) := by
    refine ⟨?_, by rw [cell_of_row w3 _ 1 _ _ _ hbu3]; rfl⟩
    repeat' apply And.intro
    all_goals (rw [cell_of_row w3 _ _ _ _ _ hbn3]; rfl)
  have DR : Hid (∀ W : World, (W.cell? ⟨w2.heap.size + 1, 0, none⟩ = some (.bool false) ∧ W.cell? ⟨w2.heap.size + 1, 1, none⟩ = some (.int .i64 0) ∧ W.cell? ⟨w2.heap.size + 1, 2, none⟩ = some (.int .u16 0) ∧ W.cell? ⟨w2.heap.size + 1, 3, none⟩ = some (.int .u32 0) ∧ W.cell? ⟨w2.heap.size + 1, 4, none⟩ = some (.int .u32 0) ∧ W.cell? ⟨w2.heap.size + 1, 5, none⟩ = some (.slice none 0 0) ∧ W.cell? ⟨w2.heap.size + 1, 6, none⟩ = some (.bool false) ∧ W.cell? ⟨w2.heap.size + 1, 7, none⟩ = some (.int .u16 0) ∧ W.cell? ⟨w2.heap.size + 1, 8, none⟩ = some (.slice none 0 0) ∧ W.cell? ⟨w2.heap.size + 1, 9, none⟩ = some (.slice none 0 0) ∧ W.cell? ⟨w2.heap.size + 1, 10, none⟩ = some (.slice none 0 0)) ∧ W.cell? ⟨w.heap.size + 1, 1, none⟩ = some (.int .i64 f) → (W.drew.cell? ⟨w2.heap.size + 1, 0, none⟩ = some (.bool false) ∧ W.drew.cell? ⟨w2.heap.size + 1, 1, none⟩ = some (.int .i64 0) ∧ W.drew.cell? ⟨w2.heap.size + 1, 2, none⟩ = some (.int .u16 0) ∧ W.drew.cell? ⟨w2.heap.size + 1, 3, none⟩ = some (.int .u32 0) ∧ W.drew.cell? ⟨w2.heap.size + 1, 4, none⟩ = some (.int .u32 0) ∧ W.drew.cell? ⟨w2.heap.size + 1, 5, none⟩ = some (.slice none 0 0) ∧ W.drew.cell? ⟨w2.heap.size + 1, 6, none⟩ = some (.bool false) ∧ W.drew.cell? ⟨w2.heap.size + 1, 7, none⟩ = some (.int .u16 0) ∧ W.drew.cell? ⟨w2.heap.size + 1, 8, none⟩ = some (.slice none 0 0) ∧ W.drew.cell? ⟨w2.heap.size + 1, 9, none⟩ = some (.slice none 0 0) ∧ W.drew.cell? ⟨w2.heap.size + 1, 10, none⟩ = some (.slice none 0 0)) ∧ W.drew.cell? ⟨w.heap.size + 1, 1, none⟩ = some (.int .i64 f)) := Lib.hid fun W h => h
  have PS : Hid (∀ W : World, (W.cell? ⟨w2.heap.size + 1, 0, none⟩ = some (.bool false) ∧ W.cell? ⟨w2.heap.size + 1, 1, none⟩ = some (.int .i64 0) ∧ W.cell? ⟨w2.heap.size + 1, 2, none⟩ = some (.int .u16 0) ∧ W.cell? ⟨w2.heap.size + 1, 3, none⟩ = some (.int .u32 0) ∧ W.cell? ⟨w2.heap.size + 1, 4, none⟩ = some (.int .u32 0) ∧ W.cell? ⟨w2.heap.size + 1, 5, none⟩ = some (.slice none 0 0) ∧ W.cell? ⟨w2.heap.size + 1, 6, none⟩ = some (.bool false) ∧ W.cell? ⟨w2.heap.size + 1, 7, none⟩ = some (.int .u16 0) ∧ W.cell? ⟨w2.heap.size + 1, 8, none⟩ = some (.slice none 0 0) ∧ W.cell? ⟨w2.heap.size + 1, 9, none⟩ = some (.slice none 0 0) ∧ W.cell? ⟨w2.heap.size + 1, 10, none⟩ = some (.slice none 0 0)) ∧ W.cell? ⟨w.heap.size + 1, 1, none⟩ = some (.int .i64 f) → ((((((((((((W.setCell ⟨w.heap.size, 0, none⟩ (.bool false)).setCell ⟨w.heap.size, 1, none⟩ (.int .i64 0)).setCell ⟨w.heap.size, 2, none⟩ (.int .u16 0)).setCell ⟨w.heap.size, 3, none⟩ (.int .u32 0)).setCell ⟨w.heap.size, 4, none⟩ (.int .u32 0)).setCell ⟨w.heap.size, 5, none⟩ (.slice none 0 0)).setCell ⟨w.heap.size, 6, none⟩ (.bool false)).setCell ⟨w.heap.size, 7, none⟩ (.int .u16 0)).setCell ⟨w.heap.size, 8, none⟩ (.slice none 0 0)).setCell ⟨w.heap.size, 9, none⟩ (.slice none 0 0)).setCell ⟨w.heap.size, 10, none⟩ (.slice none 0 0)).cell? ⟨w2.heap.size + 1, 0, none⟩ = some (.bool false) ∧ (((((((((((W.setCell ⟨w.heap.size, 0, none⟩ (.bool false)).setCell ⟨w.heap.size, 1, none⟩ (.int .i64 0)).setCell ⟨w.heap.size, 2, none⟩ (.int .u16 0)).setCell ⟨w.heap.size, 3, none⟩ (.int .u32 0)).setCell ⟨w.heap.size, 4, none⟩ (.int .u32 0)).setCell ⟨w.heap.size, 5, none⟩ (.slice none 0 0)).setCell ⟨w.heap.size, 6, none⟩ (.bool false)).setCell ⟨w.heap.size, 7, none⟩ (.int .u16 0)).setCell ⟨w.heap.size, 8, none⟩ (.slice none 0 0)).setCell ⟨w.heap.size, 9, none⟩ (.slice none 0 0)).setCell ⟨w.heap.size, 10, none⟩ (.slice none 0 0)).cell? ⟨w2.heap.size + 1, 1, none⟩ = some (.int .i64 0) ∧ (((((((((((W.setCell ⟨w.heap.size, 0, none⟩ (.bool false)).setCell ⟨w.heap.size, 1, none⟩ (.int .i64 0)).setCell ⟨w.heap.size, 2, none⟩ (.int .u16 0)).setCell ⟨w.heap.size, 3, none⟩ (.int .u32 0)).setCell ⟨w.heap.size, 4, none⟩ (.int .u32 0)).setCell ⟨w.heap.size, 5, none⟩ (.slice none 0 0)).setCell ⟨w.heap.size, 6, none⟩ (.bool false)).setCell ⟨w.heap.size, 7, none⟩ (.int .u16 0)).setCell ⟨w.heap.size, 8, none⟩ (.slice none 0 0)).setCell ⟨w.heap.size, 9, none⟩ (.slice none 0 0)).setCell ⟨w.heap.size, 10, none⟩ (.slice none 0 0)).cell? ⟨w2.heap.size + 1, 2, none⟩ = some (.int .u16 0) ∧ (((((((((((W.setCell ⟨w.heap.size, 0, none⟩ (.bool false)).setCell ⟨w.heap.size, 1, none⟩ (.int .i64 0)).setCell ⟨w.heap.size, 2, none⟩ (.int .u16 0)).setCell ⟨w.heap.size, 3, none⟩ (.int .u32 0)).setCell ⟨w.heap.size, 4, none⟩ (.int .u32 0)).setCell ⟨w.heap.size, 5, none⟩ (.slice none 0 0)).setCell ⟨w.heap.size, 6, none⟩ (.bool false)).setCell ⟨w.heap.size, 7, none⟩ (.int .u16 0)).setCell ⟨w.heap.size, 8, none⟩ (.slice none 0 0)).setCell ⟨w.heap.size, 9, none⟩ (.slice none 0 0)).setCell ⟨w.heap.size, 10, none⟩ (.slice none 0 0)).cell? ⟨w2.heap.size + 1, 3, none⟩ = some (.int .u32 0) ∧ (((((((((((W.setCell ⟨w.heap.size, 0, none⟩ (.bool false)).setCell ⟨w.heap.size, 1, none⟩ (.int .i64 0)).setCell ⟨w.heap.size, 2, none⟩ (.int .u16 0)).setCell ⟨w.heap.size, 3, none⟩ (.int .u32 0)).setCell ⟨w.heap.size, 4, none⟩ (.int .u32 0)).setCell ⟨w.heap.size, 5, none⟩ (.slice none 0 0)).setCell ⟨w.heap.size, 6, none⟩ (.bool false)).setCell ⟨w.heap.size, 7, none⟩ (.int .u16 0)).setCell ⟨w.heap.size, 8, none⟩ (.slice none 0 0)).setCell ⟨w.heap.size, 9, none⟩ (.slice none 0 0)).setCell ⟨w.heap.size, 10, none⟩ (.slice none 0 0)).cell? ⟨w2.heap.size + 1, 4, none⟩ = some (.int .u32 0) ∧ (((((((((((W.setCell ⟨w.heap.size, 0, none⟩ (.bool false)).setCell ⟨w.heap.size, 1, none⟩ (.int .i64 0)).setCell ⟨w.heap.size, 2, none⟩ (.int .u16 0)).setCell ⟨w.heap.size, 3, none⟩ (.int .u32 0)).setCell ⟨w.heap.size, 4, none⟩ (.int .u32 0)).setCell ⟨w.heap.size, 5, none⟩ (.slice none 0 0)).setCell ⟨w.heap.size, 6, none⟩ (.bool false)).setCell ⟨w.heap.size, 7, none⟩ (.int .u16 0)).setCell ⟨w.heap.size, 8, none⟩ (.slice none 0 0)).setCell ⟨w.heap.size, 9, none⟩ (.slice none 0 0)).setCell ⟨w.heap.size, 10, none⟩ (.slice none 0 0)).cell? ⟨w2.heap.size + 1, 5, none⟩ = some (.slice none 0 0) ∧ (((((((((((W.setCell ⟨w.heap.size, 0, none⟩ (.bool false)).setCell ⟨w.heap.size, 1, none⟩ (.int .i64 0)).setCell ⟨w.heap.size, 2, none⟩ (.int .u16 0)).setCell ⟨w.heap.size, 3, none⟩ (.int .u32 0)).setCell ⟨w.heap.size, 4, none⟩ (.int .u32 0)).setCell ⟨w.heap.size, 5, none⟩ (.slice none 0 0)).setCell ⟨w.heap.size, 6, none⟩ (.bool false)).setCell ⟨w.heap.size, 7, none⟩ (.int .u16 0)).setCell ⟨w.heap.size, 8, none⟩ (.slice none 0 0)).setCell ⟨w.heap.size, 9, none⟩ (.slice none 0 0)).setCell ⟨w.heap.size, 10, none⟩ (.slice none 0 0)).cell? ⟨w2.heap.size + 1, 6, none⟩ = some (.bool false) ∧ (((((((((((W.setCell ⟨w.heap.size, 0, none⟩ (.bool false)).setCell ⟨w.heap.size, 1, none⟩ (.int .i64 0)).setCell ⟨w.heap.size, 2, none⟩ (.int .u16 0)).setCell ⟨w.heap.size, 3, none⟩ (.int .u32 0)).setCell ⟨w.heap.size, 4, none⟩ (.int .u32 0)).setCell ⟨w.heap.size, 5, none⟩ (.slice none 0 0)).setCell ⟨w.heap.size, 6, none⟩ (.bool false)).setCell ⟨w.heap.size, 7, none⟩ (.int .u16 0)).setCell ⟨w.heap.size, 8, none⟩ (.slice none 0 0)).setCell ⟨w.heap.size, 9, none⟩ (.slice none 0 0)).setCell ⟨w.heap.size, 10, none⟩ (.slice none 0 0)).cell? ⟨w2.heap.size + 1, 7, none⟩ = some (.int .u16 0) ∧ (((((((((((W.setCell ⟨w.heap.size, 0, none⟩ (.bool false)).setCell ⟨w.heap.size, 1, none⟩ (.int .i64 0)).setCell ⟨w.heap.size, 2, none⟩ (.int .u16 0)).setCell ⟨w.heap.size, 3, none⟩ (.int .u32 0)).setCell ⟨w.heap.size, 4, none⟩ (.int .u32 0)).setCell ⟨w.heap.size, 5, none⟩ (.slice none 0 0)).setCell ⟨w.heap.size, 6, none⟩ (.bool false)).setCell ⟨w.heap.size, 7, none⟩ (.int .u16 0)).setCell ⟨w.heap.size, 8, none⟩ (.slice none 0 0)).setCell ⟨w.heap.size, 9, none⟩ (.slice none 0 0)).setCell ⟨w.heap.size, 10, none⟩ (.slice none 0 0)).cell? ⟨w2.heap.size + 1, 8, none⟩ = some (.slice none 0 0) ∧ (((((((((((W.setCell ⟨w.heap.size, 0, none⟩ (.bool false)).setCell ⟨w.heap.size, 1, none⟩ (.int .i64 0)).setCell ⟨w.heap.size, 2, none⟩ (.int .u16 0)).setCell ⟨w.heap.size, 3, none⟩ (.int .u32 0)).setCell ⟨w.heap.size, 4, none⟩ (.int .u32 0)).setCell ⟨w.heap.size, 5, none⟩ (.slice none 0 0)).setCell ⟨w.heap.size, 6, none⟩ (.bool false)).setCell ⟨w.heap.size, 7, none⟩ (.int .u16 0)).setCell ⟨w.heap.size, 8, none⟩ (.slice none 0 0)).setCell ⟨w.heap.size, 9, none⟩ (.slice none 0 0)).setCell ⟨w.heap.size, 10, none⟩ (.slice none 0 0)).cell? ⟨w2.heap.size + 1, 9, none⟩ = some (.slice none 0 0) ∧ (((((((((((W.setCell ⟨w.heap.size, 0, none⟩ (.bool false)).setCell ⟨w.heap.size, 1, none⟩ (.int .i64 0)).setCell ⟨w.heap.size, 2, none⟩ (.int .u16 0)).setCell ⟨w.heap.size, 3, none⟩ (.int .u32 0)).setCell ⟨w.heap.size, 4, none⟩ (.int .u32 0)).setCell ⟨w.heap.size, 5, none⟩ (.slice none 0 0)).setCell ⟨w.heap.size, 6, none⟩ (.bool false)).setCell ⟨w.heap.size, 7, none⟩ (.int .u16 0)).setCell ⟨w.heap.size, 8, none⟩ (.slice none 0 0)).setCell ⟨w.heap.size, 9, none⟩ (.slice none 0 0)).setCell ⟨w.heap.size, 10, none⟩ (.slice none 0 0)).cell? ⟨w2.heap.size + 1, 10, none⟩ = some (.slice none 0 0)) ∧ (((((((((((W.setCell ⟨w.heap.size, 0, none⟩ (.bool false)).setCell ⟨w.heap.size, 1, none⟩ (.int .i64 0)).setCell ⟨w.heap.size, 2, none⟩ (.int .u16 0)).setCell ⟨w.heap.size, 3, none⟩ (.int .u32 0)).setCell ⟨w.heap.size, 4, none⟩ (.int .u32 0)).setCell ⟨w.heap.size, 5, none⟩ (.slice none 0 0)).setCell ⟨w.heap.size, 6, none⟩ (.bool false)).setCell ⟨w.heap.size, 7, none⟩ (.int .u16 0)).setCell ⟨w.heap.size, 8, none⟩ (.slice none 0 0)).setCell ⟨w.heap.size, 9, none⟩ (.slice none 0 0)).setCell ⟨w.heap.size, 10, none⟩ (.slice none 0 0)).cell? ⟨w.heap.size + 1, 1, none⟩ = some (.int .i64 f)) := Lib.hid fun W h => by
    have e : ∀ b o, b ≠ w.heap.size → (((((((((((W.setCell ⟨w.heap.size, 0, none⟩ (.bool false)).setCell ⟨w.heap.size, 1, none⟩ (.int .i64 0)).setCell ⟨w.heap.size, 2, none⟩ (.int .u16 0)).setCell ⟨w.heap.size, 3, none⟩ (.int .u32 0)).setCell ⟨w.heap.size, 4, none⟩ (.int .u32 0)).setCell ⟨w.heap.size, 5, none⟩ (.slice none 0 0)).setCell ⟨w.heap.size, 6, none⟩ (.bool false)).setCell ⟨w.heap.size, 7, none⟩ (.int .u16 0)).setCell ⟨w.heap.size, 8, none⟩ (.slice none 0 0)).setCell ⟨w.heap.size, 9, none⟩ (.slice none 0 0)).setCell ⟨w.heap.size, 10, none⟩ (.slice none 0 0)).cell? ⟨b, o, none⟩ = W.cell? ⟨b, o, none⟩ := fun b o hb => by
      exact World.cell?_of_block (w := W) (a := ⟨b, o, none⟩) (putL_other w.heap.size b hb [.bool false, .int .i64 0, .int .u16 0, .int .u32 0, .int .u32 0, .slice none 0 0, .bool false, .int .u16 0, .slice none 0 0, .slice none 0 0, .slice none 0 0] 0 W)
    simp only [e (w2.heap.size + 1) _ (by omega), e (w.heap.size + 1) _ (by omega)]
    exact h
  clear hb3 hbu3 hbn3 hl3 hw3 hu1
  go_region_held3 (fun W : World => (W.cell? ⟨w2.heap.size + 1, 0, none⟩ = some (.bool false) ∧ W.cell? ⟨w2.heap.size + 1, 1, none⟩ = some (.int .i64 0) ∧ W.cell? ⟨w2.heap.size + 1, 2, none⟩ = some (.int .u16 0) ∧ W.cell? ⟨w2.heap.size + 1, 3, none⟩ = some (.int .u32 0) ∧ W.cell? ⟨w2.heap.size + 1, 4, none⟩ = some (.int .u32 0) ∧ W.cell? ⟨w2.heap.size + 1, 5, none⟩ = some (.slice none 0 0) ∧ W.cell? ⟨w2.heap.size + 1, 6, none⟩ = some (.bool false) ∧ W.cell? ⟨w2.heap.size + 1, 7, none⟩ = some (.int .u16 0) ∧ W.cell? ⟨w2.heap.size + 1, 8, none⟩ = some (.slice none 0 0) ∧ W.cell? ⟨w2.heap.size + 1, 9, none⟩ = some (.slice none 0 0) ∧ W.cell? ⟨w2.heap.size + 1, 10, none⟩ = some (.slice none 0 0)) ∧ W.cell? ⟨w.heap.size + 1, 1, none⟩ = some (.int .i64 f)) (first | with_reducible assumption | with_reducible exact DR.out _ (by with_reducible assumption) | with_reducible exact DR.out _ (PS.out _ (by with_reducible assumption)) | with_reducible exact PS.out _ (by with_reducible assumption)) (fail)
  obtain ⟨w4, hw4⟩ : ∃ w4, putL w3 w.heap.size 0 [.bool false, .int .i64 0, .int .u16 0, .int .u32 0, .int .u32 0, .slice none 0 0, .bool false, .int .u16 0, .slice none 0 0, .slice none 0 0, .slice none 0 0] = w4 := ⟨_, rfl⟩
  have P4 : Put w3 w4 w.heap.size #[.bool false, .int .i64 0, .int .u16 0, .int .u32 0, .int .u32 0, .slice none 0 0, .bool false, .int .u16 0, .slice none 0 0, .slice none 0 0, .slice none 0 0] 71 := by rw [← hw4]; exact putL_is (us := [.bool false, .int .i64 0, .int .u16 0, .int .u32 0, .int .u32 0, .slice none 0 0, .bool false, .int .u16 0, .slice none 0 0, .slice none 0 0, .slice none 0 0]) HB3.out rfl
  simp only [putL, Nat.zero_add, Nat.reduceAdd] at hw4
  rw [hw4]
  have hl4 : Below w.heap.size w w4 := HL3.out.grown P4.grown HL3.out.size (fun k e => by cases e; omega)
  have q4 : w4.drew.heap[w.heap.size]? = some (.cells #[.bool false, .int .i64 0, .int .u16 0, .int .u32 0, .int .u32 0, .slice none 0 0, .bool false, .int .u16 0, .slice none 0 0, .slice none 0 0, .slice none 0 0] 71 (0, 0)) := P4.row
  have HF := Lib.hid (show PartFail (.agg #[.bool false, .int .i64 0, .int .u16 0, .int .u32 0, .int .u32 0, .slice none 0 0, .bool false, .int .u16 0, .slice none 0 0, .slice none 0 0, .slice none 0 0]) f w (.returned (.tuple #[.agg #[.bool false, .int .i64 0, .int .u16 0, .int .u32 0, .int .u32 0, .slice none 0 0, .bool false, .int .u16 0, .slice none 0 0, .slice none 0 0, .slice none 0 0], .int .i64 0, .int .i64 f])) w4.drew from ⟨rfl, hl4.drew⟩)
  clear hw4 P4 hl4 hcur DR PS
  clear y0 y1 y2 y3 y4 y5 y6 y7 y8 y9 y10 yf
  have d0 : w4.drew.cell? ⟨w.heap.size, 0, none⟩ = some (.bool false) := by rw [cell_of_row w4.drew _ 0 _ _ _ q4]; rfl
  have d1 : w4.drew.cell? ⟨w.heap.size, 1, none⟩ = some (.int .i64 0) := by rw [cell_of_row w4.drew _ 1 _ _ _ q4]; rfl
  have d2 : w4.drew.cell? ⟨w.heap.size, 2, none⟩ = some (.int .u16 0) := by rw [cell_of_row w4.drew _ 2 _ _ _ q4]; rfl
  have d3 : w4.drew.cell? ⟨w.heap.size, 3, none⟩ = some (.int .u32 0) := by rw [cell_of_row w4.drew _ 3 _ _ _ q4]; rfl
  have d4 : w4.drew.cell? ⟨w.heap.size, 4, none⟩ = some (.int .u32 0) := by rw [cell_of_row w4.drew _ 4 _ _ _ q4]; rfl
  have d5 : w4.drew.cell? ⟨w.heap.size, 5, none⟩ = some (.slice none 0 0) := by rw [cell_of_row w4.drew _ 5 _ _ _ q4]; rfl
  have d6 : w4.drew.cell? ⟨w.heap.size, 6, none⟩ = some (.bool false) := by rw [cell_of_row w4.drew _ 6 _ _ _ q4]; rfl
  have d7 : w4.drew.cell? ⟨w.heap.size, 7, none⟩ = some (.int .u16 0) := by rw [cell_of_row w4.drew _ 7 _ _ _ q4]; rfl
  have d8 : w4.drew.cell? ⟨w.heap.size, 8, none⟩ = some (.slice none 0 0) := by rw [cell_of_row w4.drew _ 8 _ _ _ q4]; rfl
  have d9 : w4.drew.cell? ⟨w.heap.size, 9, none⟩ = some (.slice none 0 0) := by rw [cell_of_row w4.drew _ 9 _ _ _ q4]; rfl
  have d10 : w4.drew.cell? ⟨w.heap.size, 10, none⟩ = some (.slice none 0 0) := by rw [cell_of_row w4.drew _ 10 _ _ _ q4]; rfl
  have df : ∀ o, w4.drew.frozen? ⟨w.heap.size, o, none⟩ = false := fun o => frozen_of_row w4.drew _ o _ _ q4
  clear q4
  go_wp2
  exact bodyPost_ret (v := .tuple #[.agg #[.bool false, .int .i64 0, .int .u16 0, .int .u32 0, .int .u32 0, .slice none 0 0, .bool false, .int .u16 0, .slice none 0 0, .slice none 0 0, .slice none 0 0], .int .i64 0, .int .i64 f]) (by simp [results, Try.results117, go_sem, d0, d1, d2, d3, d4, d5, d6, d7, d8, d9, d10]) rfl HF.out
set_option maxHeartbeats 1000000 in
set_option maxRecDepth 100000 in
theorem read_ok_pk (a : Option Addr) (n c : Nat) (g : Nat) (cap : Array Value) (l' : List Int) (Q : Value → World → Prop) (w : World)
    (hn : n ≤ 9223372036854775807) (hst : Steady ((w.alloc (.cells #[.bool false, .int .i64 0, .int .u16 0, .int .u32 0, .int .u32 0, .slice none 0 0, .bool false, .int .u16 0, .slice none 0 0, .slice none 0 0, .slice none 0 0] 71)).heap.size + 6) Q) (hag : ∀ v W, Q v W → ∃ x0 x1 x2 x3 x4 a5 n5 c5 x6 x7 a8 n8 c8 a9 n9 c9 a10 n10 c10, v = .agg #[.bool x0, .int .i64 x1, .int .u16 x2, .int .u32 x3, .int .u32 x4, .slice a5 n5 c5, .bool x6, .int .u16 x7, .slice a8 n8 c8, .slice a9 n9 c9, .slice a10 n10 c10])
    (hp : POk_pk g cap a n c 0 l' Q (w.alloc (.cells #[.bool false, .int .i64 0, .int .u16 0, .int .u32 0, .int .u32 0, .slice none 0 0, .bool false, .int .u16 0, .slice none 0 0, .slice none 0 0, .slice none 0 0] 71))) :
    Calls Try.prog 75 #[.slice a n c, .func (.func g) #[] cap] w (ReadS Q w) := by
  have HP := Lib.hid (part_ok_pk a n c g cap 0 n l' Q _ hn (by omega) hp); have HST := Lib.hid hst; have HAG := Lib.hid hag; clear hp hst hag
  have h1 : ¬ (n : Int) < (n : Int) := by omega
  go_enter Try.func75, Try.ntmps75
  go_wp2_with fail
  refine (HP.out).mono ?_
  rintro e w2 ⟨v, rfl, hQ, hB⟩
  obtain ⟨x0, x1, x2, x3, x4, a5, n5, c5, x6, x7, a8, n8, c8, a9, n9, c9, a10, n10, c10, rfl⟩ := HAG.out _ _ hQ
  have hz2 : w.heap.size < w2.heap.size := by have := hB.size; simp at this; omega
  have hb4 : w2.heap[w.heap.size]? = some (.cells #[.bool false, .int .i64 0, .int .u16 0, .int .u32 0, .int .u32 0, .slice none 0 0, .bool false, .int .u16 0, .slice none 0 0, .slice none 0 0, .slice none 0 0] 71 (0, 0)) := (hB.block w.heap.size (by simp)).trans (heap_alloc_new w _)
  have hlow : Below w.heap.size w w2 := ((Below.refl _ w).alloc (Nat.le_refl _) _).trans (hB.mono (by simp))
  have HQ := Lib.hid hQ; have HB4 := Lib.hid hb4; have HLOW := Lib.hid hlow
  clear hQ hB hlow HP
  have d0 : w2.cell? ⟨w.heap.size, 0, none⟩ = some (.bool false) := by rw [cell_of_row w2 _ 0 _ _ _ hb4]; rfl
  have d1 : w2.cell? ⟨w.heap.size, 1, none⟩ = some (.int .i64 0) := by rw [cell_of_row w2 _ 1 _ _ _ hb4]; rfl
  have d2 : w2.cell? ⟨w.heap.size, 2, none⟩ = some (.int .u16 0) := by rw [cell_of_row w2 _ 2 _ _ _ hb4]; rfl
  have d3 : w2.cell? ⟨w.heap.size, 3, none⟩ = some (.int .u32 0) := by rw [cell_of_row w2 _ 3 _ _ _ hb4]; rfl
  have d4 : w2.cell? ⟨w.heap.size, 4, none⟩ = some (.int .u32 0) := by rw [cell_of_row w2 _ 4 _ _ _ hb4]; rfl
  have d5 : w2.cell? ⟨w.heap.size, 5, none⟩ = some (.slice none 0 0) := by rw [cell_of_row w2 _ 5 _ _ _ hb4]; rfl
  have d6 : w2.cell? ⟨w.heap.size, 6, none⟩ = some (.bool false) := by rw [cell_of_row w2 _ 6 _ _ _ hb4]; rfl
  have d7 : w2.cell? ⟨w.heap.size, 7, none⟩ = some (.int .u16 0) := by rw [cell_of_row w2 _ 7 _ _ _ hb4]; rfl
  have d8 : w2.cell? ⟨w.heap.size, 8, none⟩ = some (.slice none 0 0) := by rw [cell_of_row w2 _ 8 _ _ _ hb4]; rfl
  have d9 : w2.cell? ⟨w.heap.size, 9, none⟩ = some (.slice none 0 0) := by rw [cell_of_row w2 _ 9 _ _ _ hb4]; rfl
  have d10 : w2.cell? ⟨w.heap.size, 10, none⟩ = some (.slice none 0 0) := by rw [cell_of_row w2 _ 10 _ _ _ hb4]; rfl
  have df : ∀ o, w2.frozen? ⟨w.heap.size, o, none⟩ = false := fun o => frozen_of_row w2 _ o _ _ hb4
  clear hb4
  go_wp2
  obtain ⟨w3, hw3⟩ : ∃ w3, putL w2 w.heap.size 0 [.bool x0, .int .i64 x1, .int .u16 x2, .int .u32 x3, .int .u32 x4, .slice a5 n5 c5, .bool x6, .int .u16 x7, .slice a8 n8 c8, .slice a9 n9 c9, .slice a10 n10 c10] = w3 := ⟨_, rfl⟩
  have P3 : Put w2 w3 w.heap.size #[.bool x0, .int .i64 x1, .int .u16 x2, .int .u32 x3, .int .u32 x4, .slice a5 n5 c5, .bool x6, .int .u16 x7, .slice a8 n8 c8, .slice a9 n9 c9, .slice a10 n10 c10] 71 := by rw [← hw3]; exact putL_is (us := [.bool false, .int .i64 0, .int .u16 0, .int .u32 0, .int .u32 0, .slice none 0 0, .bool false, .int .u16 0, .slice none 0 0, .slice none 0 0, .slice none 0 0]) HB4.out rfl
  simp only [putL, Nat.zero_add, Nat.reduceAdd] at hw3
  rw [hw3]
  obtain ⟨w4, hw4⟩ : ∃ w4, w3.alloc (.cells #[.bool x0, .int .i64 x1, .int .u16 x2, .int .u32 x3, .int .u32 x4, .slice a5 n5 c5, .bool x6, .int .u16 x7, .slice a8 n8 c8, .slice a9 n9 c9, .slice a10 n10 c10] 71) = w4 := ⟨_, rfl⟩
  rw [hw4]
  have hl4 : Below w.heap.size w w4 := by rw [← hw4]; exact (HLOW.out.grown P3.grown HLOW.out.size (fun k e => by cases e; omega)).alloc (by rw [P3.size]; exact HLOW.out.size) _
  have q4 : w4.heap[w.heap.size]? = some (.cells #[.bool x0, .int .i64 x1, .int .u16 x2, .int .u32 x3, .int .u32 x4, .slice a5 n5 c5, .bool x6, .int .u16 x7, .slice a8 n8 c8, .slice a9 n9 c9, .slice a10 n10 c10] 71 (0, 0)) := by rw [← hw4]; exact (heap_alloc_old _ _ (by rw [P3.size]; exact hz2)).trans P3.row
  have hQ4 : Q (.agg #[.bool x0, .int .i64 x1, .int .u16 x2, .int .u32 x3, .int .u32 x4, .slice a5 n5 c5, .bool x6, .int .u16 x7, .slice a8 n8 c8, .slice a9 n9 c9, .slice a10 n10 c10]) w4 := HST.out _ w2 w4 ((Above.grown P3.grown (by simp; omega)).trans (by rw [← hw4]; exact Above.alloc _ _ _)) HQ.out
  have HF := Lib.hid (show ReadS Q w (.returned (.tuple #[.agg #[.bool x0, .int .i64 x1, .int .u16 x2, .int .u32 x3, .int .u32 x4, .slice a5 n5 c5, .bool x6, .int .u16 x7, .slice a8 n8 c8, .slice a9 n9 c9, .slice a10 n10 c10], .int .i64 0])) w4 from ⟨_, rfl, hQ4, hl4⟩)
  clear hw3 hw4 P3 hl4 hQ4
  clear d0 d1 d2 d3 d4 d5 d6 d7 d8 d9 d10 df
  have d0 : w4.cell? ⟨w.heap.size, 0, none⟩ = some (.bool x0) := by rw [cell_of_row w4 _ 0 _ _ _ q4]; rfl
  have d1 : w4.cell? ⟨w.heap.size, 1, none⟩ = some (.int .i64 x1) := by rw [cell_of_row w4 _ 1 _ _ _ q4]; rfl
  have d2 : w4.cell? ⟨w.heap.size, 2, none⟩ = some (.int .u16 x2) := by rw [cell_of_row w4 _ 2 _ _ _ q4]; rfl
  have d3 : w4.cell? ⟨w.heap.size, 3, none⟩ = some (.int .u32 x3) := by rw [cell_of_row w4 _ 3 _ _ _ q4]; rfl
  have d4 : w4.cell? ⟨w.heap.size, 4, none⟩ = some (.int .u32 x4) := by rw [cell_of_row w4 _ 4 _ _ _ q4]; rfl
  have d5 : w4.cell? ⟨w.heap.size, 5, none⟩ = some (.slice a5 n5 c5) := by rw [cell_of_row w4 _ 5 _ _ _ q4]; rfl
  have d6 : w4.cell? ⟨w.heap.size, 6, none⟩ = some (.bool x6) := by rw [cell_of_row w4 _ 6 _ _ _ q4]; rfl
  have d7 : w4.cell? ⟨w.heap.size, 7, none⟩ = some (.int .u16 x7) := by rw [cell_of_row w4 _ 7 _ _ _ q4]; rfl
  have d8 : w4.cell? ⟨w.heap.size, 8, none⟩ = some (.slice a8 n8 c8) := by rw [cell_of_row w4 _ 8 _ _ _ q4]; rfl
  have d9 : w4.cell? ⟨w.heap.size, 9, none⟩ = some (.slice a9 n9 c9) := by rw [cell_of_row w4 _ 9 _ _ _ q4]; rfl
  have d10 : w4.cell? ⟨w.heap.size, 10, none⟩ = some (.slice a10 n10 c10) := by rw [cell_of_row w4 _ 10 _ _ _ q4]; rfl
  have df : ∀ o, w4.frozen? ⟨w.heap.size, o, none⟩ = false := fun o => frozen_of_row w4 _ o _ _ q4
  clear q4
  exact bodyPost_ret (v := .tuple #[.agg #[.bool x0, .int .i64 x1, .int .u16 x2, .int .u32 x3, .int .u32 x4, .slice a5 n5 c5, .bool x6, .int .u16 x7, .slice a8 n8 c8, .slice a9 n9 c9, .slice a10 n10 c10], .int .i64 0]) (by simp [results, Try.results75, go_sem, d0, d1, d2, d3, d4, d5, d6, d7, d8, d9, d10]) rfl HF.out
set_option maxHeartbeats 1000000 in
set_option maxRecDepth 100000 in
theorem read_fail_pk (a : Option Addr) (n c : Nat) (g : Nat) (cap : Array Value) (f : Int) (w : World) (hf : (f != 0) = true) (hp : PNo_pk g cap a n c f (w.alloc (.cells #[.bool false, .int .i64 0, .int .u16 0, .int .u32 0, .int .u32 0, .slice none 0 0, .bool false, .int .u16 0, .slice none 0 0, .slice none 0 0, .slice none 0 0] 71))) :
    Calls Try.prog 75 #[.slice a n c, .func (.func g) #[] cap] w (ReadFail (.agg #[.bool false, .int .i64 0, .int .u16 0, .int .u32 0, .int .u32 0, .slice none 0 0, .bool false, .int .u16 0, .slice none 0 0, .slice none 0 0, .slice none 0 0]) f w) := by
  have HP := Lib.hid (part_fail_pk a n c g cap f _ hf hp); clear hp
  have hf0 : (f == 0) = false := by simpa using hf
  go_enter Try.func75, Try.ntmps75
  go_wp2_with fail
  refine (HP.out).mono ?_
  rintro e w2 ⟨rfl, hB⟩
  have hz2 : w.heap.size < w2.heap.size := by have := hB.size; simp at this; omega
  have hb4 : w2.heap[w.heap.size]? = some (.cells #[.bool false, .int .i64 0, .int .u16 0, .int .u32 0, .int .u32 0, .slice none 0 0, .bool false, .int .u16 0, .slice none 0 0, .slice none 0 0, .slice none 0 0] 71 (0, 0)) := (hB.block w.heap.size (by simp)).trans (heap_alloc_new w _)
  have hlow : Below w.heap.size w w2 := ((Below.refl _ w).alloc (Nat.le_refl _) _).trans (hB.mono (by simp))
  have HB4 := Lib.hid hb4; have HLOW := Lib.hid hlow
  clear hB hlow HP
  have d0 : w2.cell? ⟨w.heap.size, 0, none⟩ = some (.bool false) := by rw [cell_of_row w2 _ 0 _ _ _ hb4]; rfl
  have d1 : w2.cell? ⟨w.heap.size, 1, none⟩ = some (.int .i64 0) := by rw [cell_of_row w2 _ 1 _ _ _ hb4]; rfl
  have d2 : w2.cell? ⟨w.heap.size, 2, none⟩ = some (.int .u16 0) := by rw [cell_of_row w2 _ 2 _ _ _ hb4]; rfl
  have d3 : w2.cell? ⟨w.heap.size, 3, none⟩ = some (.int .u32 0) := by rw [cell_of_row w2 _ 3 _ _ _ hb4]; rfl
  have d4 : w2.cell? ⟨w.heap.size, 4, none⟩ = some (.int .u32 0) := by rw [cell_of_row w2 _ 4 _ _ _ hb4]; rfl
  have d5 : w2.cell? ⟨w.heap.size, 5, none⟩ = some (.slice none 0 0) := by rw [cell_of_row w2 _ 5 _ _ _ hb4]; rfl
  have d6 : w2.cell? ⟨w.heap.size, 6, none⟩ = some (.bool false) := by rw [cell_of_row w2 _ 6 _ _ _ hb4]; rfl
  have d7 : w2.cell? ⟨w.heap.size, 7, none⟩ = some (.int .u16 0) := by rw [cell_of_row w2 _ 7 _ _ _ hb4]; rfl
  have d8 : w2.cell? ⟨w.heap.size, 8, none⟩ = some (.slice none 0 0) := by rw [cell_of_row w2 _ 8 _ _ _ hb4]; rfl
  have d9 : w2.cell? ⟨w.heap.size, 9, none⟩ = some (.slice none 0 0) := by rw [cell_of_row w2 _ 9 _ _ _ hb4]; rfl
  have d10 : w2.cell? ⟨w.heap.size, 10, none⟩ = some (.slice none 0 0) := by rw [cell_of_row w2 _ 10 _ _ _ hb4]; rfl
  have df : ∀ o, w2.frozen? ⟨w.heap.size, o, none⟩ = false := fun o => frozen_of_row w2 _ o _ _ hb4
  clear hb4
  go_wp2
  obtain ⟨w3, hw3⟩ : ∃ w3, putL w2 w.heap.size 0 [.bool false, .int .i64 0, .int .u16 0, .int .u32 0, .int .u32 0, .slice none 0 0, .bool false, .int .u16 0, .slice none 0 0, .slice none 0 0, .slice none 0 0] = w3 := ⟨_, rfl⟩
  have P3 : Put w2 w3 w.heap.size #[.bool false, .int .i64 0, .int .u16 0, .int .u32 0, .int .u32 0, .slice none 0 0, .bool false, .int .u16 0, .slice none 0 0, .slice none 0 0, .slice none 0 0] 71 := by rw [← hw3]; exact putL_is (us := [.bool false, .int .i64 0, .int .u16 0, .int .u32 0, .int .u32 0, .slice none 0 0, .bool false, .int .u16 0, .slice none 0 0, .slice none 0 0, .slice none 0 0]) HB4.out rfl
  simp only [putL, Nat.zero_add, Nat.reduceAdd] at hw3
  rw [hw3]
  obtain ⟨w4, hw4⟩ : ∃ w4, w3.alloc (.cells #[.bool false, .int .i64 0, .int .u16 0, .int .u32 0, .int .u32 0, .slice none 0 0, .bool false, .int .u16 0, .slice none 0 0, .slice none 0 0, .slice none 0 0] 71) = w4 := ⟨_, rfl⟩
  rw [hw4]
  have hl4 : Below w.heap.size w w4 := by rw [← hw4]; exact (HLOW.out.grown P3.grown HLOW.out.size (fun k e => by cases e; omega)).alloc (by rw [P3.size]; exact HLOW.out.size) _
  have q4 : w4.heap[w.heap.size]? = some (.cells #[.bool false, .int .i64 0, .int .u16 0, .int .u32 0, .int .u32 0, .slice none 0 0, .bool false, .int .u16 0, .slice none 0 0, .slice none 0 0, .slice none 0 0] 71 (0, 0)) := by rw [← hw4]; exact (heap_alloc_old _ _ (by rw [P3.size]; exact hz2)).trans P3.row
  have HF := Lib.hid (show ReadFail (.agg #[.bool false, .int .i64 0, .int .u16 0, .int .u32 0, .int .u32 0, .slice none 0 0, .bool false, .int .u16 0, .slice none 0 0, .slice none 0 0, .slice none 0 0]) f w (.returned (.tuple #[.agg #[.bool false, .int .i64 0, .int .u16 0, .int .u32 0, .int .u32 0, .slice none 0 0, .bool false, .int .u16 0, .slice none 0 0, .slice none 0 0, .slice none 0 0], .int .i64 f])) w4 from ⟨rfl, hl4⟩)
  clear hw3 hw4 P3 hl4
  clear d0 d1 d2 d3 d4 d5 d6 d7 d8 d9 d10 df
  have d0 : w4.cell? ⟨w.heap.size, 0, none⟩ = some (.bool false) := by rw [cell_of_row w4 _ 0 _ _ _ q4]; rfl
  have d1 : w4.cell? ⟨w.heap.size, 1, none⟩ = some (.int .i64 0) := by rw [cell_of_row w4 _ 1 _ _ _ q4]; rfl
  have d2 : w4.cell? ⟨w.heap.size, 2, none⟩ = some (.int .u16 0) := by rw [cell_of_row w4 _ 2 _ _ _ q4]; rfl
  have d3 : w4.cell? ⟨w.heap.size, 3, none⟩ = some (.int .u32 0) := by rw [cell_of_row w4 _ 3 _ _ _ q4]; rfl
  have d4 : w4.cell? ⟨w.heap.size, 4, none⟩ = some (.int .u32 0) := by rw [cell_of_row w4 _ 4 _ _ _ q4]; rfl
  have d5 : w4.cell? ⟨w.heap.size, 5, none⟩ = some (.slice none 0 0) := by rw [cell_of_row w4 _ 5 _ _ _ q4]; rfl
  have d6 : w4.cell? ⟨w.heap.size, 6, none⟩ = some (.bool false) := by rw [cell_of_row w4 _ 6 _ _ _ q4]; rfl
  have d7 : w4.cell? ⟨w.heap.size, 7, none⟩ = some (.int .u16 0) := by rw [cell_of_row w4 _ 7 _ _ _ q4]; rfl
  have d8 : w4.cell? ⟨w.heap.size, 8, none⟩ = some (.slice none 0 0) := by rw [cell_of_row w4 _ 8 _ _ _ q4]; rfl
  have d9 : w4.cell? ⟨w.heap.size, 9, none⟩ = some (.slice none 0 0) := by rw [cell_of_row w4 _ 9 _ _ _ q4]; rfl
  have d10 : w4.cell? ⟨w.heap.size, 10, none⟩ = some (.slice none 0 0) := by rw [cell_of_row w4 _ 10 _ _ _ q4]; rfl
  have df : ∀ o, w4.frozen? ⟨w.heap.size, o, none⟩ = false := fun o => frozen_of_row w4 _ o _ _ q4
  clear q4
  exact bodyPost_ret (v := .tuple #[.agg #[.bool false, .int .i64 0, .int .u16 0, .int .u32 0, .int .u32 0, .slice none 0 0, .bool false, .int .u16 0, .slice none 0 0, .slice none 0 0, .slice none 0 0], .int .i64 f]) (by simp [results, Try.results75, go_sem, d0, d1, d2, d3, d4, d5, d6, d7, d8, d9, d10]) rfl HF.out
end Go.Proofs.Ytedhmoihlfjbdaa
