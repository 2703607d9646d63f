
/-
  wire.Part[uint16], wire.Read[uint16].
-/
import Derived.Test.YtppgjodehphaeaaWireAttu16
import Derived.Test.YtppgjodehphaeaaWirePartint
namespace Go.Proofs.Ytppgjodehphaeaa
open Go.RowKit Go.Shelf
set_option linter.unusedVariables false
set_option maxHeartbeats 1000000 in
set_option maxRecDepth 100000 in
theorem part_ok_u16 (a : Option Addr) (n c : Nat) (g : Nat) (cap : Array Value) (n' k : Nat) (l' : List Int) (Q : Value → World → Prop) (w : World)
    (hn : n ≤ 9223372036854775807) (hk : n = n' + k) (hp : ParsesOk (75) g cap a n c n' l' Q w) :
    Calls Try.prog 59 #[.slice a n c, .func (.func g) #[] cap] w (PartOk k Q w) := by
  have hatt := attempt_ok_u16 w.heap.size a n c [] g cap n' k l' Q (runW w) (heap_alloc_new w _) hn hk hp.nil hp.ent hp.calls
  have HATT := Lib.hid hatt; clear hatt hp hk
  go_enter Try.func59, Try.ntmps59
  go_wp2_with fail
  refine (HATT.out).mono ?_
  rintro e w2 ⟨v, w1, rfl, hQ, hg1, hU, hg, hz⟩
  have hu1 : w2.cell? ⟨w.heap.size, 1, none⟩ = some (.int .i64 0) := by rw [cell_of_row w2 w.heap.size 1 _ _ _ hU]; rfl
  have hfin := part_post k Q w v w1 w2 hQ hg1 hg hz
  have HF := Lib.hid hfin; clear hfin hQ hg1 hU hg hz HATT
  go_wp2
  exact bodyPost_ret (v := .tuple #[v, .int .i64 k, .int .i64 0]) (by simp [results, Try.results59, go_sem]) rfl HF.out
set_option maxHeartbeats 1000000 in
set_option maxRecDepth 100000 in
theorem part_fail_u16 (a : Option Addr) (n c : Nat) (g : Nat) (cap : Array Value) (f : Int) (w : World) (hf : (f != 0) = true) (hp : ParsesFail (75) g cap a n c f w) :
    Calls Try.prog 59 #[.slice a n c, .func (.func g) #[] cap] w (PartFail (.int .u16 0) f w) := by
  have hatt := attempt_fail_u16 w.heap.size a n c g cap f (runW w) (heap_alloc_new w _) hp.nil hp.ent hp.calls
  have HATT := Lib.hid hatt; clear hatt hp
  go_enter Try.func59, Try.ntmps59
  go_wp2_with fail
  refine (HATT.out).mono ?_
  rintro e w2 ⟨rfl, hU, hg⟩
  have hu1 : w2.cell? ⟨w.heap.size, 1, none⟩ = some (.int .i64 f) := by rw [cell_of_row w2 w.heap.size 1 _ _ _ hU]; rfl
  have hfin := part_below w hg
  have HF := Lib.hid hfin; clear hfin hU hg HATT
  go_wp2_with fail
  go_quiet (fail)
  go_wp2
  exact bodyPost_ret (v := .tuple #[.int .u16 0, .int .i64 0, .int .i64 f]) (by simp [results, Try.results59, go_sem]) rfl ⟨rfl, HF.out.trans (below_drewN w2 _ nq)⟩
set_option maxHeartbeats 1000000 in
set_option maxRecDepth 100000 in
theorem read_ok_u16 (a : Option Addr) (n c : Nat) (g : Nat) (cap : Array Value) (l' : List Int) (Q : Value → World → Prop) (w : World)
    (hn : n ≤ 9223372036854775807) (hp : ParsesOk (75) g cap a n c 0 l' Q w) :
    Calls Try.prog 32 #[.slice a n c, .func (.func g) #[] cap] w (ReadOk Q w) := by
  have HP := Lib.hid (part_ok_u16 a n c g cap 0 n l' Q w hn (by omega) hp); clear hp
  have h1 : ¬ (n : Int) < (n : Int) := by omega
  go_enter Try.func32, Try.ntmps32
  go_wp2_with (go_at_call 59; refine (HP.out).mono ?_; rintro e w2 ⟨v, w1, rfl, hQ, hg1, hB, hz⟩; have HF := Lib.hid (show ReadOk Q w (.returned (.tuple #[v, .int .i64 0])) w2 from ⟨v, w1, rfl, hQ, hg1, hB, hz⟩); clear hQ hg1 hB hz)
  exact bodyPost_ret (v := .tuple #[v, .int .i64 0]) (by simp [results, Try.results32, go_sem]) rfl HF.out
set_option maxHeartbeats 1000000 in
set_option maxRecDepth 100000 in
theorem read_more_u16 (a : Option Addr) (n c : Nat) (g : Nat) (cap : Array Value) (n' : Nat) (l' : List Int) (Q : Value → World → Prop) (w : World)
    (hn : n ≤ 9223372036854775807) (h0 : 0 < n') (hn' : n' ≤ n) (hp : ParsesOk (75) g cap a n c n' l' Q w) :
    Calls Try.prog 32 #[.slice a n c, .func (.func g) #[] cap] w (ReadFail (.int .u16 0) 22 w) := by
  obtain ⟨k, hk⟩ : ∃ k, n = n' + k := ⟨n - n', by omega⟩
  have HP := Lib.hid (part_ok_u16 a n c g cap n' k l' Q w hn hk hp); clear hp
  have h1 : (k : Int) < (n : Int) := by omega
  clear hk
  go_enter Try.func32, Try.ntmps32
  go_wp2_with (go_at_call 59; refine (HP.out).mono ?_; rintro e w2 ⟨v, w1, rfl, hQ, hg1, hB, hz⟩; have HB := Lib.hid hB; clear hQ hg1 hB hz)
  exact bodyPost_ret (v := .tuple #[.int .u16 0, .int .i64 22]) (by simp [results, Try.results32, go_sem]) rfl ⟨rfl, HB.out⟩
set_option maxHeartbeats 1000000 in
set_option maxRecDepth 100000 in
theorem read_fail_u16 (a : Option Addr) (n c : Nat) (g : Nat) (cap : Array Value) (f : Int) (w : World) (hf : (f != 0) = true) (hp : ParsesFail (75) g cap a n c f w) :
    Calls Try.prog 32 #[.slice a n c, .func (.func g) #[] cap] w (ReadFail (.int .u16 0) f w) := by
  have HP := Lib.hid (part_fail_u16 a n c g cap f w hf hp); clear hp
  have hf0 : (f == 0) = false := by simpa using hf
  go_enter Try.func32, Try.ntmps32
  go_wp2_with (go_at_call 59; refine (HP.out).mono ?_; rintro e w2 ⟨rfl, hB⟩; have HB := Lib.hid hB; clear hB)
  exact bodyPost_ret (v := .tuple #[.int .u16 0, .int .i64 f]) (by simp [results, Try.results32, go_sem]) rfl ⟨rfl, HB.out⟩
end Go.Proofs.Ytppgjodehphaeaa
