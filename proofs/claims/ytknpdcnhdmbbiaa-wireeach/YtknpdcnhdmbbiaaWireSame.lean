
/-
  confluxref01.Number; confluxref03.Same, of the same.
-/
import Derived.Test.YtknpdcnhdmbbiaaWireParse
namespace Go.Proofs.Ytknpdcnhdmbbiaa
open Go.RowKit Go.Shelf
set_option linter.unusedVariables false
set_option maxHeartbeats 1000000 in
set_option maxRecDepth 100000 in
theorem rnum_any (a : Option Addr) (n c : Nat) (l : List Int) (w : World) (h : BAt w a n l) (h8 : n ≤ 8) :
    Calls Try.prog 81 #[.slice a n c] w (SameV (.int .u64 (Num l)) w) := by
  have hl := h.len; have hok := h.ok
  obtain ⟨b, o, hr⟩ := h.row
  have HL := Lib.hid hl; have HR := Lib.hid hr; have HK := Lib.hid hok; clear hl hr hok h
  go_enter Try.func81, Try.ntmps81
  go_wp2
  go_loop [3, 4] (fun ov iv => ∃ i : Nat, i ≤ n ∧ iv = .int .i64 i ∧ ov = .int .u64 (Num (l.take i))) (fun _ iv => n - (intOf iv).toNat)
  case atStart => exact ⟨0, Nat.zero_le _, rfl, rfl⟩
  case round =>
    obtain ⟨i, hi, rfl, rfl⟩ := hrel
    by_cases hlt : i < n
    · have hltz : (i : Int) < (n : Int) := by omega
      obtain ⟨rfl, hbl, d1, d2⟩ := HR.out i hlt
      have hb := Num_bd l HK.out i (by rw [HL.out]; omega)
      have hb2 := Num_bd l HK.out (i + 1) (by rw [HL.out]; omega)
      have hs := Num_take l i (by rw [HL.out]; exact hlt)
      have hby := HK.out i
      have hp : (256 : Int) ^ (i + 1) ≤ 18446744073709551616 := by
        have : i = 0 ∨ i = 1 ∨ i = 2 ∨ i = 3 ∨ i = 4 ∨ i = 5 ∨ i = 6 ∨ i = 7 := by omega
        rcases this with rfl | rfl | rfl | rfl | rfl | rfl | rfl | rfl <;> decide
      have HS := Lib.hid hs
      have hb3 : Num (l.take i) * 256 + l.getD i 0 < 18446744073709551616 := by rw [← hs]; omega
      clear hs hb2 hp
      generalize Num (l.take i) = x at hb HS hb3 ⊢
      generalize l.getD i 0 = y at d1 hby HS hb3
      have hb0 := hb.1
      clear hb d2
      have hu1 : IntKind.u64.wrap y = y := by simp [IntKind.wrap, IntKind.bits, IntKind.signed]; omega
      have hu2 : IntKind.u64.wrap (x * 256) = x * 256 := by simp [IntKind.wrap, IntKind.bits, IntKind.signed]; omega
      have hu3 : IntKind.u64.wrap (x * 256 + y) = x * 256 + y := by simp [IntKind.wrap, IntKind.bits, IntKind.signed]; omega
      go_wp2
      go_round
      case rel => exact ⟨i + 1, by omega, by go_num, by rw [HS.out]⟩
      case measure => simp [intOf]; omega
    · have hltz : ¬ (i : Int) < (n : Int) := by omega
      obtain rfl : i = n := by omega
      have hl := HL.out
      go_wp2
      go_ret
      exact ⟨by rw [List.take_of_length_le (by omega)]; rfl, rfl⟩
set_option maxHeartbeats 2000000 in
set_option maxRecDepth 100000 in
theorem gsame_any (a b : Option Addr) (n c1 c2 : Nat) (xs : Nat → Int) (A A2 : Nat → Option Addr) (L L2 C C2 : Nat → Nat) (bs : Nat → List Int) (w : World) (h1 : GtAt w a n xs A L C bs) (h2 : GtAt w b n xs A2 L2 C2 bs) (hn : n ≤ 1000000) :
    Calls Try.prog 14 #[.slice a n c1, .slice b n c2] w (Drawn (.bool true) w) := by
  have H1 := Lib.hid h1; have H2 := Lib.hid h2; clear h1 h2
  have hne : ((n : Int) != (n : Int)) = false := by simp
  go_enter Try.func14, Try.ntmps14
  go_wp2
  go_loopw [5] (fun iv wr => ∃ (i m : Nat), i ≤ n ∧ iv = .int .i64 i ∧ Hid (wr = w.drewN m)) (fun iv _ => n - (intOf iv).toNat)
  case atStart => exact ⟨0, 0, Nat.zero_le _, rfl, Lib.hid rfl⟩
  case round =>
    obtain ⟨i, m, hi, rfl, HW⟩ := hrel
    by_cases hlt : i < n
    · have hltz : (i : Int) < (n : Int) := by omega
      obtain ⟨g1, o1, r1⟩ := H1.out
      obtain ⟨g2, o2, r2⟩ := H2.out
      obtain ⟨rfl, _, d1, d2, _, _, d3⟩ := r1 i hlt
      obtain ⟨rfl, _, e1, e2, _, _, e3⟩ := r2 i hlt
      have HSA : Hid (∀ j, Calls Try.prog 24 #[.slice (A i) (L i) (C i), .slice (A2 i) (L2 i) (C2 i)] (wr.drewN j) (Drawn (.bool true) (wr.drewN j))) := Lib.hid fun j => by
        rw [HW.out, World.drewN_drewN]
        have := same_any (A i) (A2 i) (L i) (L2 i) (C i) (C2 i) (bs i) (bs i) (w.drewN (m + j)) (d3.drewN _) (e3.drewN _)
        rwa [decide_eq_true rfl] at this
      have d1 : wr.cell? ⟨g1, o1 + i * 2, none⟩ = some (.int .u64 (xs i)) := by rw [HW.out]; exact d1
      have d2 : wr.cell? ⟨g1, o1 + i * 2 + 1, none⟩ = some (.slice (A i) (L i) (C i)) := by rw [HW.out]; exact d2
      have e1 : wr.cell? ⟨g2, o2 + i * 2, none⟩ = some (.int .u64 (xs i)) := by rw [HW.out]; exact e1
      have e2 : wr.cell? ⟨g2, o2 + i * 2 + 1, none⟩ = some (.slice (A2 i) (L2 i) (C2 i)) := by rw [HW.out]; exact e2
      have hx : ((xs i) != (xs i)) = false := by simp
      clear d3 e3 r1 r2
      generalize xs i = x at d1 e1 hx
      generalize A i = Ai at d2 HSA
      generalize L i = Li at d2 HSA
      generalize C i = Ci at d2 HSA
      generalize A2 i = A2i at e2 HSA
      generalize L2 i = L2i at e2 HSA
      generalize C2 i = C2i at e2 HSA
      go_wp2_with fail
      go_quiet ((go_at_call 24; exact Calls.quiet_of ((HSA.out _).mono fun _ _ ⟨u, k, v⟩ => ⟨u, k, v⟩)))
      go_wp2
      go_roundw
      case rel => exact ⟨i + 1, m + nq, by omega, by go_num, Lib.hid (by rw [HW.out, World.drewN_drewN])⟩
      case measure => simp [intOf]; omega
    · have hltz : ¬ (i : Int) < (n : Int) := by omega
      go_wp2
      go_ret
      exact ⟨rfl, m, HW.out⟩
end Go.Proofs.Ytknpdcnhdmbbiaa
