
/-
  rtp.splitPadding.
-/
import Derived.Test.YtpannhbmelcpfaaRtpParse1
namespace Go.Proofs.Ytpannhbmelcpfaa
open Go.RowKit Go.Shelf
set_option linter.unusedVariables false
theorem psize_le (l : List Int) (hl : Str.Ok l) : psize l ≤ l.length := by
  unfold psize
  have := hl (l.length - 1)
  split
  · omega
  · split <;> omega
set_option maxHeartbeats 1000000 in
set_option maxRecDepth 100000 in
theorem split_ok (R : Nat) (a : Option Addr) (n c e : Nat) (l : List Int) (w : World) (hb : BAt w a n l) (hc : n ≤ c) (hs : psize l ≠ 0) (he : e + psize l = n) :
    Calls Try.prog 104 #[.pointer (some ⟨R, 0, none⟩), .slice a n c] w (Drawn (.tuple #[.slice a e e, .slice (restA a c e) (n - e) (c - e)]) w) := by
  have hlim := hb.lim
  have HS := Lib.hid (psize_any a n c l w hb)
  have hp := psize_le l hb.ok
  clear hb
  generalize psize l = k at *
  have hz : ((k : Int) == 0) = false := by rw [beq_eq_false_iff_ne]; omega
  have hsub : IntKind.i64.wrap ((n : Int) - (k : Int)) = (e : Int) := by rw [IntKind.wrap_i64]; omega
  have hsub2 : (n : Int) - (k : Int) = (e : Int) := by omega
  have hsl := run_rest a n c e (by omega) (by omega)
  have h1 : (0 : Int) ≤ (e : Int) := by omega
  have h2 : (e : Int) ≤ (c : Int) := by omega
  clear he hs
  go_enter Try.func104, Try.ntmps104
  go_wp2_with (go_at_call 136; refine (HS.out).mono ?_; rintro e w' ⟨rfl, rfl⟩)
  go_quiet (fail)
  go_wp2
  go_ret2
  exact ⟨rfl, nq, rfl⟩
set_option maxHeartbeats 1000000 in
theorem split_no (R U : Nat) (ar : Option Addr) (nr cr : Nat) (lr : List Int) (a : Option Addr) (n c : Nat) (l : List Int) (w : World) (h : RdAt w R U ar nr cr lr) (hb : BAt w a n l) (hs : psize l = 0) :
    Calls Try.prog 104 #[.pointer (some ⟨R, 0, none⟩), .slice a n c] w (FailPost U 21 w) := by
  have HS := psize_any a n c l w hb
  rw [hs] at HS
  have HS := Lib.hid HS
  have HF := Lib.hid (fail_nz R U ar nr cr lr 21 w h rfl)
  clear hb h hs
  go_enter Try.func104, Try.ntmps104
  go_wp2_with (first
    | (go_at_call 136; refine (HS.out).mono ?_; rintro e w' ⟨rfl, rfl⟩)
    | (go_at_call 94; refine (HF.out).mono ?_; rintro e w' ⟨rfl, h1, h2, h3⟩))
  exact ⟨rfl, rfl, h1, h2, h3⟩
end Go.Proofs.Ytpannhbmelcpfaa
