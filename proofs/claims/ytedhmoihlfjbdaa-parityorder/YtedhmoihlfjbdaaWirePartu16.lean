/-
  wire.attempt[uint16].
-/
import Derived.Test.YtedhmoihlfjbdaaWirePartint
namespace Go.Proofs.Ytedhmoihlfjbdaa
open Go.RowKit Go.Shelf
set_option linter.unusedVariables false
theorem catch_idle_u16 (X U : Nat) (w : World) (hx : w.cell? ⟨X, 0, none⟩ = some (.pointer (some ⟨U, 0, none⟩))) (hu0 : w.cell? ⟨U, 0, none⟩ = some (.bool false)) (hf : w.frozen? ⟨U, 0, none⟩ = false) :
    CallsD Try.prog 175 #[.pointer (some ⟨X, 0, none⟩)] .returning w fun e u' w' => e = .returned (.tuple #[]) ∧ u' = .returning ∧ w' = w.setCell ⟨U, 0, none⟩ (.bool true) := by
  refine callsD_of_wpS Try.func175 rfl fun c₀ cs hu => ?_
  apply wpS_seq
  refine wpS_of_wp ?_
  simp only [Try.ntmps175, List.size_toArray, List.length_cons, List.length_nil, Nat.reduceAdd, Nat.reduceSub, Array.replicate_succ, Array.replicate_zero, List.push_toArray, List.append_toArray, List.nil_append, List.cons_append]
  go_wp2
  have hni : ∀ w, (binOp .eql 20 .nilIface .nilIface).run Try.prog w = .ok (.bool true) w := fun w => by kernel_rfl
  show Code.wpS _ _ _ _ _ _
  apply wpS_seq
  apply wpS_region
  simp [wpOpsS, go_sem, recoverD, hu, Exit.thenS]
  refine wpS_of_wp ?_
  go_wp2
  cases c₀
  simp_all [bodyPostS, results, Try.results175]
set_option maxRecDepth 100000 in
theorem catch_fail_u16 (X U : Nat) (w : World) (hx : w.cell? ⟨X, 0, none⟩ = some (.pointer (some ⟨U, 0, none⟩))) (hu0 : ∃ v, w.cell? ⟨U, 0, none⟩ = some v) (hf : w.frozen? ⟨U, 0, none⟩ = false) (hXU : X ≠ U) (hXl : X < w.heap.size) :
    CallsD Try.prog 175 #[.pointer (some ⟨X, 0, none⟩)] (.panicking [{ v := failV U, recovered := false }]) w fun e u' w' => e = .returned (.tuple #[]) ∧ u' = .panicking [{ v := failV U, recovered := true }] ∧ w' = (w.setCell ⟨U, 0, none⟩ (.bool true)).alloc (.cells #[.pointer (some ⟨U, 0, none⟩)] 233) := by
  obtain ⟨v0, hu0⟩ := hu0
  refine callsD_of_wpS Try.func175 rfl fun c₀ cs hu => ?_
  apply wpS_seq
  refine wpS_of_wp ?_
  simp only [Try.ntmps175, List.size_toArray, List.length_cons, List.length_nil, Nat.reduceAdd, Nat.reduceSub, Array.replicate_succ, Array.replicate_zero, List.push_toArray, List.append_toArray, List.nil_append, List.cons_append]
  go_wp2
  show Code.wpS _ _ _ _ _ _
  apply wpS_seq
  apply wpS_region
  simp [wpOpsS, go_sem, recoverD, hu, Exit.thenS]
  refine wpS_of_wp ?_
  unfold failV
  have hni : ∀ w, (binOp .eql 20 (.iface 233 (.agg #[.pointer (some ⟨U, 0, none⟩)])) .nilIface).run Try.prog w = .ok (.bool false) w := fun w => by kernel_rfl
  have hta : ∀ w, (Instr.typeAssert (.iface 233 (.agg #[.pointer (some ⟨U, 0, none⟩)])) 20 233 true).run Try.prog w = .ok (.tuple #[.agg #[.pointer (some ⟨U, 0, none⟩)], .bool true]) w := fun w => by kernel_rfl
  have hx2 : ∀ v o, ((w.setCell ⟨U, 0, none⟩ v).alloc o).cell? ⟨X, 0, none⟩ = some (.pointer (some ⟨U, 0, none⟩)) := fun v o => (World.cell?_of_block (w := w.setCell ⟨U, 0, none⟩ v) (a := ⟨X, 0, none⟩) (Below.heap_alloc _ _ _ (by simpa using hXl))).trans ((World.cell?_of_block (w := w) (a := ⟨X, 0, none⟩) (Below.heap_setCell w ⟨U, 0, none⟩ v X hXU)).trans hx)
  have hnq := fun w => neq_run w U
  go_wp2
  cases c₀
  simp_all [bodyPostS, results, Try.results175]
set_option maxHeartbeats 1000000 in
set_option maxRecDepth 100000 in
theorem attempt_ok_u16 (U : Nat) (a : Option Addr) (n c : Nat) (l : List Int) (g : Nat) (cap : Array Value) (n' k : Nat) (l' : List Int) (Q : Value → World → Prop) (w : World)
    (hu : w.heap[U]? = some (.cells #[.bool false, .int .i64 0] 219 (0, 0))) (hn : n ≤ 9223372036854775807) (hk : n = n' + k)
    (hnil : ∀ w, (binOp .neq 230 (.func (.func g) #[] cap) .nilFunc).run Try.prog w = .ok (.bool true) w)
    (hent : ∀ args w, (callFunc g args).run Try.prog w = .ok (.enter g args) w)
    (hp : Calls Try.prog g (#[.pointer (some ⟨w.heap.size + 1, 0, none⟩)] ++ cap) (attW w U a n c) (ParseOk (w.heap.size + 1) U n' l' Q (attW w U a n c))) :
    Calls Try.prog 167 #[.pointer (some ⟨U, 0, none⟩), .slice a n c, .func (.func g) #[] cap] w (AttOk U k Q w) := by
  have hmf : ∀ (fn : Fn) (first cap : Array Value) (w : World), (Instr.makeFunc fn first cap).run Try.prog w = .ok (.func fn first cap) w := fun _ _ _ _ => rfl
  have hsub : IntKind.i64.wrap ((n : Int) - (n' : Int)) = (k : Int) := by rw [IntKind.wrap_i64]; omega
  have HP := Lib.hid hp; have HU := Lib.hid hu; clear hp hu hk
  go_enter_defers Try.func167, Try.ntmps167
  go_wp2
  refine (HP.out).mono ?_
  rintro e w1 ⟨v, a', c', rfl, hR, hK, hQ⟩
  have hlt := (Array.getElem?_eq_some_iff.1 HU.out).1
  have hX := attW_box w U a n c hlt hK
  have r0 := hR.r0
  have HR := Lib.hid hR; have HK := Lib.hid hK; have HQ := Lib.hid hQ; have HX := Lib.hid hX
  clear hR hK hQ hX HP
  go_wp2_with fail
  go_quiet (fail)
  go_wp2
  refine leaves_cons (f := 175) (args := #[.pointer (some ⟨w.heap.size, 0, none⟩)]) (by simp) (by simp [go_sem]) ?_
  refine (catch_idle_u16 w.heap.size U (w1.drewN nq) HX.out HR.out.u0 (HR.out.fu 0)).mono ?_
  rintro e u' w'' ⟨rfl, rfl, rfl⟩
  have hg1 : w1.grownBy ((w1.drewN nq).setCell ⟨U, 0, none⟩ (.bool true)) (some U) := ⟨rfl, rfl, rfl, by simp, fun j _ hj => Below.heap_setCell (w1.drewN nq) _ _ j (fun e => hj (by rw [e]))⟩
  have hfin : AttOk U k Q w (.returned (.tuple #[v, .int .i64 k])) ((w1.drewN nq).setCell ⟨U, 0, none⟩ (.bool true)) :=
    ⟨v, w1, rfl, HQ.out, hg1, heap_setCell_same (w1.drewN nq) U 0 _ _ _ HR.out.run, attW_grown w U a n c HK.out hg1, Nat.le_trans (by simp [attW]; omega) HK.out.size⟩
  have HF := Lib.hid hfin; clear hfin
  simp [Leaves, settle, results, Try.results167, go_sem]
  exact HF.out
set_option maxHeartbeats 1000000 in
set_option maxRecDepth 100000 in
theorem attempt_fail_u16 (U : Nat) (a : Option Addr) (n c : Nat) (g : Nat) (cap : Array Value) (f : Int) (w : World)
    (hu : w.heap[U]? = some (.cells #[.bool false, .int .i64 0] 219 (0, 0)))
    (hnil : ∀ w, (binOp .neq 230 (.func (.func g) #[] cap) .nilFunc).run Try.prog w = .ok (.bool true) w)
    (hent : ∀ args w, (callFunc g args).run Try.prog w = .ok (.enter g args) w)
    (hp : Calls Try.prog g (#[.pointer (some ⟨w.heap.size + 1, 0, none⟩)] ++ cap) (attW w U a n c) (ParseFail (w.heap.size + 1) U f (attW w U a n c))) :
    Calls Try.prog 167 #[.pointer (some ⟨U, 0, none⟩), .slice a n c, .func (.func g) #[] cap] w (AttFail U f (.int .u16 0) w) := by
  have hmf : ∀ (fn : Fn) (first cap : Array Value) (w : World), (Instr.makeFunc fn first cap).run Try.prog w = .ok (.func fn first cap) w := fun _ _ _ _ => rfl
  have HP := Lib.hid hp; have HU := Lib.hid hu; clear hp hu
  go_enter_defers Try.func167, Try.ntmps167
  go_wp2
  refine (HP.out).mono ?_
  rintro e w1 ⟨rfl, hu1, hK⟩
  have hlt := (Array.getElem?_eq_some_iff.1 HU.out).1
  have hX := attW_box w U a n c hlt hK
  have hzl : w.heap.size < w1.heap.size := by have := hK.size; simp [attW] at this; omega
  have HU1 := Lib.hid hu1; have HK := Lib.hid hK; have HX := Lib.hid hX
  clear hu1 hK hX HP
  go_wp2
  refine leaves_cons (f := 175) (args := #[.pointer (some ⟨w.heap.size, 0, none⟩)]) (by simp) (by simp [go_sem]) ?_
  refine (catch_fail_u16 w.heap.size U _ HX.out ⟨_, by rw [cell_of_row w1 U 0 _ _ _ HU1.out]; rfl⟩ (frozen_of_row w1 U 0 _ _ HU1.out) (by omega) hzl).mono ?_
  rintro e u' w'' ⟨rfl, rfl, rfl⟩
  have hg1 : w1.grownBy ((w1.setCell ⟨U, 0, none⟩ (.bool true)).alloc (.cells #[.pointer (some ⟨U, 0, none⟩)] 233)) (some U) := ⟨rfl, rfl, rfl, by simp, fun j hj hne => (Below.heap_alloc _ _ _ (by simpa using hj)).trans (Below.heap_setCell w1 _ _ j (fun e => hne (by rw [e])))⟩
  have hfin : AttFail U f (.int .u16 0) w (.returned (.tuple #[.int .u16 0, .int .i64 0])) ((w1.setCell ⟨U, 0, none⟩ (.bool true)).alloc (.cells #[.pointer (some ⟨U, 0, none⟩)] 233)) :=
    ⟨rfl, (Below.heap_alloc _ _ _ (by have := (Array.getElem?_eq_some_iff.1 HU1.out).1; simpa using this)).trans (heap_setCell_same w1 U 0 _ _ _ HU1.out), attW_grown w U a n c HK.out hg1⟩
  have HF := Lib.hid hfin; clear hfin
  simp [Leaves, settle, results, Try.results167, go_sem]
  exact HF.out
end Go.Proofs.Ytedhmoihlfjbdaa
namespace Go.Proofs.Ytedhmoihlfjbdaa
open Go.RowKit Go.Shelf
set_option linter.unusedVariables false
set_option maxHeartbeats 1000000 in
set_option maxRecDepth 100000 in
theorem part_ok_u16 (a : Option Addr) (n c : Nat) (g : Nat) (cap : Array Value) (n' k : Nat) (l' : List Int) (Q : Value → World → Prop) (w : World)
    (hn : n ≤ 9223372036854775807) (hk : n = n' + k) (hp : ParsesOk (230) g cap a n c n' l' Q w) :
    Calls Try.prog 159 #[.slice a n c, .func (.func g) #[] cap] w (PartOk k Q w) := by
  have hatt := attempt_ok_u16 w.heap.size a n c [] g cap n' k l' Q (runW w) (heap_alloc_new w _) hn hk hp.nil hp.ent hp.calls
  have HATT := Lib.hid hatt; clear hatt hp hk
  go_enter Try.func159, Try.ntmps159
  go_wp2_with fail
  refine (HATT.out).mono ?_
  rintro e w2 ⟨v, w1, rfl, hQ, hg1, hU, hg, hz⟩
  have hu1 : w2.cell? ⟨w.heap.size, 1, none⟩ = some (.int .i64 0) := by rw [cell_of_row w2 w.heap.size 1 _ _ _ hU]; rfl
  have hfin := part_post k Q w v w1 w2 hQ hg1 hg hz
  have HF := Lib.hid hfin; clear hfin hQ hg1 hU hg hz HATT
  go_wp2
  exact bodyPost_ret (v := .tuple #[v, .int .i64 k, .int .i64 0]) (by simp [results, Try.results159, go_sem]) rfl HF.out
set_option maxHeartbeats 1000000 in
set_option maxRecDepth 100000 in
theorem part_fail_u16 (a : Option Addr) (n c : Nat) (g : Nat) (cap : Array Value) (f : Int) (w : World) (hf : (f != 0) = true) (hp : ParsesFail (230) g cap a n c f w) :
    Calls Try.prog 159 #[.slice a n c, .func (.func g) #[] cap] w (PartFail (.int .u16 0) f w) := by
  have hatt := attempt_fail_u16 w.heap.size a n c g cap f (runW w) (heap_alloc_new w _) hp.nil hp.ent hp.calls
  have HATT := Lib.hid hatt; clear hatt hp
  go_enter Try.func159, Try.ntmps159
  go_wp2_with fail
  refine (HATT.out).mono ?_
  rintro e w2 ⟨rfl, hU, hg⟩
  have hu1 : w2.cell? ⟨w.heap.size, 1, none⟩ = some (.int .i64 f) := by rw [cell_of_row w2 w.heap.size 1 _ _ _ hU]; rfl
  have hfin := part_below w hg
  have HF := Lib.hid hfin; clear hfin hU hg HATT
  go_wp2_with fail
  go_quiet (fail)
  go_wp2
  exact bodyPost_ret (v := .tuple #[.int .u16 0, .int .i64 0, .int .i64 f]) (by simp [results, Try.results159, go_sem]) rfl ⟨rfl, HF.out.trans (below_drewN w2 _ nq)⟩
set_option maxHeartbeats 1000000 in
set_option maxRecDepth 100000 in
theorem read_ok_u16 (a : Option Addr) (n c : Nat) (g : Nat) (cap : Array Value) (l' : List Int) (Q : Value → World → Prop) (w : World)
    (hn : n ≤ 9223372036854775807) (hp : ParsesOk (230) g cap a n c 0 l' Q w) :
    Calls Try.prog 142 #[.slice a n c, .func (.func g) #[] cap] w (ReadOk Q w) := by
  have HP := Lib.hid (part_ok_u16 a n c g cap 0 n l' Q w hn (by omega) hp); clear hp
  have h1 : ¬ (n : Int) < (n : Int) := by omega
  go_enter Try.func142, Try.ntmps142
  go_wp2_with (go_at_call 159; refine (HP.out).mono ?_; rintro e w2 ⟨v, w1, rfl, hQ, hg1, hB, hz⟩; have HF := Lib.hid (show ReadOk Q w (.returned (.tuple #[v, .int .i64 0])) w2 from ⟨v, w1, rfl, hQ, hg1, hB, hz⟩); clear hQ hg1 hB hz)
  exact bodyPost_ret (v := .tuple #[v, .int .i64 0]) (by simp [results, Try.results142, go_sem]) rfl HF.out
set_option maxHeartbeats 1000000 in
set_option maxRecDepth 100000 in
theorem read_more_u16 (a : Option Addr) (n c : Nat) (g : Nat) (cap : Array Value) (n' : Nat) (l' : List Int) (Q : Value → World → Prop) (w : World)
    (hn : n ≤ 9223372036854775807) (h0 : 0 < n') (hn' : n' ≤ n) (hp : ParsesOk (230) g cap a n c n' l' Q w) :
    Calls Try.prog 142 #[.slice a n c, .func (.func g) #[] cap] w (ReadFail (.int .u16 0) 22 w) := by
  obtain ⟨k, hk⟩ : ∃ k, n = n' + k := ⟨n - n', by omega⟩
  have HP := Lib.hid (part_ok_u16 a n c g cap n' k l' Q w hn hk hp); clear hp
  have h1 : (k : Int) < (n : Int) := by omega
  clear hk
  go_enter Try.func142, Try.ntmps142
  go_wp2_with (go_at_call 159; refine (HP.out).mono ?_; rintro e w2 ⟨v, w1, rfl, hQ, hg1, hB, hz⟩; have HB := Lib.hid hB; clear hQ hg1 hB hz)
  exact bodyPost_ret (v := .tuple #[.int .u16 0, .int .i64 22]) (by simp [results, Try.results142, go_sem]) rfl ⟨rfl, HB.out⟩
set_option maxHeartbeats 1000000 in
set_option maxRecDepth 100000 in
theorem read_fail_u16 (a : Option Addr) (n c : Nat) (g : Nat) (cap : Array Value) (f : Int) (w : World) (hf : (f != 0) = true) (hp : ParsesFail (230) g cap a n c f w) :
    Calls Try.prog 142 #[.slice a n c, .func (.func g) #[] cap] w (ReadFail (.int .u16 0) f w) := by
  have HP := Lib.hid (part_fail_u16 a n c g cap f w hf hp); clear hp
  have hf0 : (f == 0) = false := by simpa using hf
  go_enter Try.func142, Try.ntmps142
  go_wp2_with (go_at_call 159; refine (HP.out).mono ?_; rintro e w2 ⟨rfl, hB⟩; have HB := Lib.hid hB; clear hB)
  exact bodyPost_ret (v := .tuple #[.int .u16 0, .int .i64 f]) (by simp [results, Try.results142, go_sem]) rfl ⟨rfl, HB.out⟩
end Go.Proofs.Ytedhmoihlfjbdaa
